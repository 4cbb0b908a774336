import PyProof.Rows.All
import Wide.All
import OpenK.AllK
import Wide.FinOn
import Lean
import PyProof.EqAt
import PyProof.EqKinds
import PyProof.TupleCall
import KE.KSortTup
import OpenK.KRaise
import OpenK.KOwn
import PyProof.ExcBaseAll.ValueError
import KE.KIsAll
import PyProof.ExcAttrAll.ValueError
import PyProof.NsDelKeeps
import PyProof.RulesAs
import KE.KTryMore
import KE.KLam
import KE.KNestM
import OpenK.KEqL
import PyProof.Rows.EqDataRows
import PyProof.NeKinds
import PyProof.FactsAll.dict
import PyProof.FactsAll.subtypes
import PyProof.ListRange
import PyProof.TupleOfGen
import PyProof.TupleOfSeq
import KE.KTupSum
import PyProof.Rows.SumAny
import PySem.Challenge.RW_tiechances_k53_whole_at_once
local macro_rules
|`(∅)=>`(by omega)
|`(-0)=>`(by decide)
local macro_rules
|`(tactic|omega)=>`(tactic|lia)
open Bool renaming and_eq_true→À,false_ne_true→Í,not_eq_true'→á,eq_iff_iff→À0,or_eq_true→Â9,true_and→Ä0,false_and→Å5,and_true→Æ8,false_eq_true→Ê2,and_false→Ë4,not_eq_false'→Ð9
open PySem renaming wpAny_bind→Á,Value→Ã,Shared→Æ,Addr→È,wpAny_pure→Î,Expr→Ò,wpAny→Ô,model→Û,Program→ç,bootBuiltins→î,Heap→ò,mainGlobals→õ,World→ø,compareOp→û,Around→ý,starEach→þ,wpAny_newObj_type→À2,wpAny_truthy_bool→À8,Scope→Á2,wpAny_field→Â6,sizeLine_eq→Â7,binaryOp→Ã2,cLine→Ä3,Paired→Ä5,swappedStores→Ä6,wpAny_callSpecial?_slot→Å1,wpAny_mono→Å2,Builtin→Å6,IsPair→Æ2,mem_of_lookup→Ç0,wpAny_seqItems→Ç5,wpAny_call_entry→Ç6,Env→Ç8,Stmt→Ç9,wpAny_setField_rec→È2,call_meets→È4,wpAny_passesOwn→È6,foldedSetIterable→É0,assignEach→É7,wpAny_holding→Ê8,NameKind→Ë1,FuncData→Ë2,wpAny_pyIter_tuple→Ë5,sliceBounds→Í4,importedModules→Í9,codeAny_builtin→Î0,wpAny_typeOf→Ï2,swapsWith→Ï7,wpAny_rule→Ï8,Operator→Ð6,IsZip→Ð7,wpAny_pyIter_list→Ñ6,intKind→Ñ7,wpAny_comprehension_free→Ñ9,codeAny_mono→Ó7,codeAny→Ó8,backTo→Ó9,IsRange→Ô0,wpAny_updateSeq_pair→Ö3,wpAny_loadName_local→Ö4,assign→Ö7,IsPart→Ø0,getItem→Ø4,wpAny_standAt→Ù3,wpAny_onRaise→Ù4,foldedForSure→Ù6,wpAny_Call_Name_kw→Ù8,typeIs_int→Ù9,IsTupleKey→Ú7,wpAny_assign_Name→Û2,storedH→Û3,callerA→Û4,noFill_tuple_add→Ü7,seqIndex_of→Ý1,wpAny_execs_nil→Ý4,letOwnedTupleGo→Ý5
open PySem.W renaming Frag→Â,kas_item→ì,kas_desc→Â8,kas_place→Ä2,kas_asc→Ç3,kas_rev→È3,boot_heap→É9,kasC_bind→Ë7,excIn→Î1,kas_descPart→Ï4,kas_sort→Ð4,kas_count→Ò8,kas_item_eq→Ô6,kia_tup→Õ3,kia_one→Õ4,codeHdIn→Ö8,kasC_pure→Ø3,tabObj→Ú1,cellsFrom_some→Ü8,kasC_modify→Ý2
open PySem.Heap renaming get?_push_of_some→Ä,get?_push_size→Ð,lt_size→å,size_push→Ê9,IsTuple→Ñ8,get?_update_other→Ý9,SameBut→Þ0,get?_update_self→Þ5
open List renaming length_map→Å,mem_cons_self→Ç,mem_cons_of_mem→É,mem_map→Ë,getElem?_eq_getElem→Ñ,getD_eq_getElem?_getD→Ó,length_cons→Õ,size_toArray→Ö,range→Ø,mem_append_right→Ú,map_map→Ü,getElem?_eq_some_iff→Þ,mem_cons→à,getElem?_map→ã,all_eq_true→ä,mem_range→é,length_range→ê,getElem?_set_ne→ë,replicate→í,getElem?_set_self→ï,mem_singleton→ð,mem_append→ó,mem_of_getElem?→ô,length_append→ö,mem_singleton→ù,lookup_cons→À3,getElem_mem→À4,pairwise_cons→À9,all_eq_true→Á1,mem_append_left→Á4,mem_cons→Á8,map_congr_left→Á9,filterMap_cons→Â0,map_append→Â1,append_nil→Ã0,not_mem_nil→Ã1,all_cons→Ã6,range'→Ã8,length_nil→Ã9,append_assoc→Ä1,toArray→Ä7,pairwise_lt_range→Ä8,length_set→Å0,length_take→Å3,getElem?_append_right→Å4,pairwise_singleton→Å7,perm_ext_iff_of_nodup→Å8,mem_filter→Æ1,contains_eq_mem→Æ3,mem_filter→Æ9,replicate_succ→Ç1,length_filter_le→Ç2,mem_append→Ç7,range_eq_range'→È0,map_cons→È1,take_of_length_le→È7,mem_iff_getElem→È9,drop_eq_getElem_cons→É2,filter_congr→É6,zip_cons_cons→Ê0,pairwise_append→Ê4,foldl_cons→Ê6,length_drop→Ë0,flatten_cons→Ë8,nil_append→Ì3,mem_range→Ì6,forIn_cons→Ì7,contains_iff_mem→Ì8,lookup→Ì9,pairwise_map→Í7,length_eraseIdx_of_lt→Í8,filter_map→Î8,rel_of_pairwise_cons→Î9,getElem?_append_left→Ï0,range'_succ→Ñ0,isEmpty_iff→Ñ1,getElem?_replicate→Ñ2,nodup_cons→Ò2,reverse_cons→Ò3,length_singleton→Ò4,mem_of_mem_drop→Ó3,getElem?_append→Ó4,nodup_range→Ô4,map_id→Ô5,cons_append→Ô7,getElem?_range→Õ1,mapM_cons→Õ2,forIn_nil→Õ5,Pairwise→Õ7,mem_filterMap→Õ9,getElem?_take→Ö0,getElem?_drop→Ö1,zip_nil_left→Ø5,nodup_append→Ø6,foldl_append→Ø7,length→Ú6,perm_append_singleton→Ü5,getElem?_cons_zero→Ý7,drop_eq_nil_of_le→Ý8,length_replicate→Þ1,getElem?_eq_none→Þ2,eraseIdx_sublist→Þ3,contains_iff_mem→Þ4
open Nat renaming le_refl→Ê,le_trans→Ù,lt_of_lt_of_le→Ý,ne_of_lt→ß,lt_irrefl→À1,zero_le→Æ6,pow_le_pow_right→É4,le_add_right→É5,lt_succ_of_lt→Í0,le_of_lt→Í5,lt_of_le_of_lt→Î3,not_lt_zero→Ð0,le_of_eq→Ò1,testBit_and→Ô2,blt→Õ0,mul_comm→Ø9,succ_le_succ→Ú3,lt_succ_self→Ú4,le_of_not_lt→Ú5,strongRecOn→Û8
open Option renaming map_eq_some_iff→Ì,bind_eq_some_iff→Ï,map→Í3,map_eq_some_iff→Ò7,ne_none_iff_exists'→Û0,isSome_iff_exists→Ü4
open ForInStep renaming yield→â,done→æ
open PySem.Value renaming none→è,type→Ã5,ref→Ä4,bool→È8,notImplemented→Ò9
open PySem.NameKind renaming free→ñ,cell→Æ0
open PySem.Challenge renaming pw_tiechances_k53_whole_at_once→ú
open Int renaming le_of_lt→ü,toNat_natCast→Á3,mul_le_mul_of_nonneg_left→Á6,mul_comm→Â3,le_trans→Æ4,eq_ofNat_of_zero_le→Ê7,mul_nonneg→Ì4,mul_assoc→Ì5,eq_of_mul_eq_mul_right→Î5,mul_le_mul→Î7,one_mul→Ï9,natCast_pow→Ð1,mul_pos→Ð2,lt_of_le_of_lt→Ø1
open Array renaming getElem?_toList→ÿ,getD_eq_getD_getElem?→Å9,extract→Æ7,getElem?_eq_getElem→É1,length_toList→Ê1,toArray_toList→Î6,map_extract→Ð3,size→Õ8,map_append→Ù2
open PyProof.Rows renaming callWith_type1→À5,SortSt→Á7,slot_tuple_getitem→Â5,seqObj→Ã7,SortKind→É8,IntsAre→Ë3,IsTup→Ï1,listItems_at→Ï3,pendingOf→Ò6,AllBare→Ô1,oneType'→Ö5,envOfC→Ö6,listUpdate_at→Ù5,assignInOrder_cons→Ú0,get?_update_seq→Ý6
open List.Pairwise renaming filter→À6,imp_of_mem→Ö9
open PySem.PyData renaming strOk→À7,depthAll→Ñ5,eqv→Ú9
open PySem.Obj renaming mapSeq→Á0
open Option.some renaming inj→Á5,injEq→Ó1
open PySem.Str renaming ofString→Â2
open Ne renaming symm→Â4
open PySem.Builtin.Range renaming rangeSize→Ã3,small→Ð8
open PySem.AutoSeq1 renaming wpAny_loadPart'→Ã4,wpAny_loadPart'→Ä9,idx_int→Ö2,sub_tuple_tuple→Û1
open False renaming elim→Æ5
open PyProof.Rows.KeyOrd renaming kle_refl→Ç4,kle_of_klt→Î4,kle_trans→Ø8
open PyProof.Rows.SortSt renaming mk'→È5
open PySem.F renaming slot_tuple_iterator_next→É3,args_tuple_add_2→Î2,plainAttrs_list→Ï5,entry_tuple_add→Ï6,slot_tuple_add→Ð5,slot_tuple_lt→Ñ4,called_tuple→Ò0,slot_zip_next→Ó5,slot_int_rmul→Ó6,args_tuple_mul_2→Ù1,excBase_ValueError→Ú2,entry_tuple_mul→Ú8,type_list_append→Û6,slot_list_append→Û7,slot_tuple_mul→Û9,plain_tuple_new→Ü1,plain_list_iadd→Ü2,args_tuple_lt_2→Ü3,entry_tuple_lt→Ü9,args_tuple_iterator_next_1→Ý0,entry_tuple_iterator_next→Ý3
open True renaming intro→Ê3
open PySem.Builtin renaming bitAnd→Ê5
open PySem.Heap.SameBut renaming update→Ë6
open PySem.Builtin.List renaming listExtendWith→Ë9,listTooLong→Í1
open Array.Perm renaming refl→Ì0
open PySem.Builtin.Tuple renaming tupleExact→Ì1
open PySem.Builtin.SmallTypes renaming ownedTupleIsFree→Ì2
open Classical renaming byContradiction→Í2
open List.Perm renaming eq_of_pairwise→Í6
open PySem.W.KasT renaming ret→Ñ3
open PySem.Around renaming under_plainId→Ò5
open PySem.W.Looks renaming ld→Ó0,of_pure→Ù7,here→Û5
open Prod.mk renaming injEq→Ó2
open PySem.Builtin.Slice renaming slicePlaces→Ô3
open Sum renaming inr→Ô8,inl→Ô9
open PySem.SeqAt renaming EqAt→Õ6
open PySem.Calls renaming spliced_nil→Ø2,Name_function_global→Ü0,evalArgs_plain→Þ6
open Iff renaming rfl→Ù0
open PySem.Builtin.Int renaming intBits→Ü6
local macro_rules
|`(command|def $i:declId $s:optDeclSig $v)=>`(noncomputable def $i:declId $s:optDeclSig $v)
|`(command|abbrev $i:declId $s:optDeclSig $v)=>`(noncomputable abbrev $i:declId $s:optDeclSig $v)
open PySem.W (methodObj hideAll hideAll_get of_hideAll fnOf kia_one kitx_none kitx_bool kitx_int kitx_str kitx_tuple kitx_list kitx_dict kitAny kia_tup mg_of view)
open PySem.Heap (lt_size size_push)
open List (range filterMap_cons mem_cons_self mem_cons_of_mem mem_append_left getElem_inj mem_append_right append_nil of_mem_zip replicate length_take mem_of_getElem? length_append length_map size_toArray length_drop map_nil map_cons length_set reverse_cons replicate_succ flatten_cons foldl append_assoc foldl_cons lookup_cons forIn_cons toArray forIn_nil mem_cons not_mem_nil range' length_nil nil_append take_of_length_le length_range zip_cons_cons length_cons map_congr_left mem_append mem_singleton map_id all_nil mapM_cons any_eq_true getElem_mem pairwise_singleton pairwise_map all_map all_eq_true all_cons range_eq_range' drop_length contains_iff_mem cons_append pairwise_lt_range perm_ext_iff_of_nodup nodup_range mem_filter mem_range map_id' range_succ filter_map contains_eq_mem filter_congr length_filter_le pairwise_append nodup_nil)
open Array (length_toList toList getD_eq_getD_getElem? getD size_map map_extract push extract setIfInBounds toArray_toList)
open Nat (ne_of_gt le_succ zero_le le_add_right not_lt_zero ble beq lt_succ_of_lt ble_eq pow_le_pow_right pow_succ mul_add beq_eq testBit_and)
open Int (mul_one toNat_natCast emod_nonneg emod_lt_of_pos gcd gcd_comm natCast_pow le_of_dvd mul_nonneg mul_le_mul mul_pos pow_add add_zero one_mul mul_assoc)
open PyProof.Rows (lt_int)
open PySem.Builtin.Slice (sliceAdjust slicePlaces sliceApplied)
open PySem.Builtin.Tuple (tupleItemsOf tupleExact tupleCompareSizes tupleTooMany tupleIsExact)
open Bool (and_eq_true false_eq_true not_eq_true' or_eq_true not_eq_false')
open Option (getD_none map_some map_eq_some_iff)
open PySem.Builtin.SmallTypes (nextOf ownedTupleIsFree ownedTupleHandOut)
set_option bootstrap.genMatcherCode false
set_option compiler.extract_closed false
set_option genInjectivity false
set_option genSizeOf false
set_option autoImplicit true
set_option relaxedAutoImplicit true
set_option Elab.async false
set_option linter.all false
set_option maxRecDepth 100000
namespace L2
open PySem PySem.Spec PyProof.Rows
abbrev Key:=Sum Int Str
def q52:Key->Ã->Bool
 |.inl k,v=>Ã.isInt k v|.inr x,v=>Ã.isStrOf x v
def U02(w:ø):Key->Int
 |.inl k=>hashInt k|.inr x=>hashStr w x
theorem d50:∀ {k:Key}{v:Ã},q52 k v=true->(∃ i t,k=Ô9 i/\v=Ã.int i t)∨(∃ x t,k=Ô8 x/\v=Ã.str x t)
 |.inl i,v,h=>by
  obtain⟨t,e⟩:=Ã.isInt_shape (k:=i) (v:=v) h;exact .inl ⟨i,t,rfl,e⟩
 |.inr x,v,h=>by
  obtain⟨t,e⟩:=Ã.isStrOf_shape (x:=x) (v:=v) h;exact .inr ⟨x,t,rfl,e⟩
theorem q62(a b:Int):decide ((Ô9 a:Key)=Ô9 b)=(a == b):=by
 by_cases e:a=b
 ·subst e;simp
 ·have h:¬ (Ô9 a:Key)=Ô9 b:=λq=>e (Ô9.inj q);rw[decide_eq_false h];exact(beq_eq_false_iff_ne.mpr e).symm
theorem q72(a b:Str):decide ((Ô8 a:Key)=Ô8 b)=decide (a=b):=by
 by_cases e:a=b
 ·subst e;simp
 ·have h:¬ (Ô8 a:Key)=Ô8 b:=λq=>e (Ô8.inj q);rw[decide_eq_false h,decide_eq_false e]
theorem q82(a:Int)(b:Str):decide ((Ô9 a:Key)=Ô8 b)=false:=decide_eq_false (λq=>nomatch q)
theorem q92(a:Str)(b:Int):decide ((Ô8 a:Key)=Ô9 b)=false:=decide_eq_false (λq=>nomatch q)
def u61(prog:ç)(w:ø):PySem.KeyKind prog w Key where
 is:=q52
 hash:=U02 w
 inj:=λv a b ha hb=>by
  rcases d50 ha with ⟨i,t,rfl,rfl⟩ | ⟨x,t,rfl,rfl⟩
  ·rcases d50 hb with ⟨j,u,rfl,e⟩ | ⟨y,u,rfl,e⟩
   ·injection e with e1 _;rw[e1]
   ·exact nomatch e
  ·rcases d50 hb with ⟨j,u,rfl,e⟩ | ⟨y,u,rfl,e⟩
   ·exact nomatch e
   ·injection e with e1 _;rw[e1]
 byValue:=λk v h=>by
  rcases d50 h with ⟨i,t,rfl,rfl⟩ | ⟨x,t,rfl,rfl⟩ <;> rfl
 pyHash:=λhv h=>by
  rcases d50 hv with ⟨i,t,rfl,rfl⟩ | ⟨x,t,rfl,rfl⟩
  ·exact wpAny_pyHash_int h
  ·exact wpAny_pyHash_str h
 eqBool:=λhu hv h=>by
  rcases d50 hu with ⟨i,t,rfl,rfl⟩ | ⟨x,t,rfl,rfl⟩
  ·rcases d50 hv with ⟨j,u,rfl,rfl⟩ | ⟨y,u,rfl,rfl⟩
   ·rw[q62] at h;exact wpAny_eqBool_int h
   ·rw[q82] at h;exact Õ6.int_str i t y u _ _ _ _ h
  ·rcases d50 hv with ⟨j,u,rfl,rfl⟩ | ⟨y,u,rfl,rfl⟩
   ·rw[q92] at h;exact Õ6.str_int x t j u _ _ _ _ h
   ·rw[q72] at h;exact wpAny_eqBool_str h
 «strs»:=λk x t v h=>by
  rcases d50 h with ⟨i,u,rfl,e⟩ | ⟨y,u,rfl,e⟩
  ·exact nomatch e
  ·injection e with e1 _;subst e1;cases v <;> rfl
inductive V where
 |non | bl (b:Bool) | int (i:Int) | str (x:Str) | byt (b:Array UInt8) | flt (b:UInt64) | ref (a:Addr) | ty (n:String)
 deriving DecidableEq
def RelV:V->Ã->Prop
 |.non,u=>u=è|.bl b,u=>u=È8 b|.int i,u=>∃ t,u=Ã.int i t|.str x,u=>∃ t,u=Ã.str x t|.byt b,u=>∃ t,u=Ã.bytes b t|.flt b,u=>∃ t,u=Ã.float b t|.ref a,u=>u=Ä4 a|.ty n,u=>u=Ã5 n
abbrev Vals:List V->List Ã->Prop:=Ä5 RelV
theorem Vals.length{xs:List V}{us:List Ã}(r:Vals xs us):xs.length=us.length:=Ä5.length r
theorem Vals.get:∀ {xs:List V}{us:List Ã}{i:Nat}{x:V},Vals xs us->xs[i]?=some x->∃ u,us[i]?=some u/\RelV x u
 |_,_,_,_,.nil,e=>by simp at e|_,_,0,_,.cons r _,e=>by simp at e;subst e;exact⟨_,rfl,r⟩
 |_,_,i + 1,x,.cons _ t,e=>by
  obtain⟨u,h1,h2⟩:=Vals.get (i:=i) (x:=x) t (by simpa using e)
  exact⟨u,by simpa using h1,h2⟩
theorem Vals.set{x:V}{u:Ã}(r:RelV x u):∀ {xs:List V}{us:List Ã} (i:Nat),Vals xs us->Vals (xs.set i x) (us.set i u)
 |_,_,_,.nil=>.nil|_,_,0,.cons _ t=>.cons r t|_,_,i + 1,.cons q t=>.cons q (Vals.set r i t)
theorem Vals.append:∀ {xs ys:List V}{us ws:List Ã},Vals xs us->Vals ys ws->Vals (xs++ys) (us++ws)
 |_,_,_,_,.nil,s=>s|_,_,_,_,.cons r t,s=>.cons r (Vals.append t s)
theorem Vals.take:∀ {xs:List V}{us:List Ã} (n:Nat),Vals xs us->Vals (xs.take n) (us.take n)
 |_,_,0,_=>.nil|_,_,_ + 1,.nil=>.nil|_,_,n + 1,.cons r t=>.cons r (Vals.take n t)
theorem Vals.drop:∀ {xs:List V}{us:List Ã} (n:Nat),Vals xs us->Vals (xs.drop n) (us.drop n)
 |_,_,0,r=>r|_,_,_ + 1,.nil=>.nil|_,_,n + 1,.cons _ t=>Vals.drop n t
def R32:Option V->Option Ã->Prop
 |some v,some u=>RelV v u|none,none=>True|_,_=>False
def KV{κ:Type}:List (κ × V)->List (κ × Ã)->Prop:=Ä5 λ(p:κ × V) (q:κ × Ã)=>p.1=q.1/\RelV p.2 q.2
def kV:Key->V
 |.inl i=>.int i|.inr x=>.str x
inductive HO where
 |lst (xs:List V)
 |tup (xs:List V)
 |dK (kvs:List (Key × V)) | dT (kvs:List (List Key × V))
 |set (S:Int->Bool) (n:Nat)
 |ins (C dx:Addr) (fs:List (Str × V))
 |own (x:Addr)
 |xd (fs:List (Str × V))
 |met (f x:Addr)
 |rng (lo hi:Int)
 |frz (o:Obj) (u:HO)
 |tbl (ps:Array Value)
 |ext (φ:Heap->Prop)
abbrev Hp:=È->Option HO
def upd(H:Hp)(a:È)(o:HO):Hp:=λb=>if b=a then some o else H b
theorem d10{H:Hp}{a:È}{o:HO}:upd H a o a=some o:=by unfold upd;rw[if_pos rfl]
theorem a80{H:Hp}{a b:È}{o:HO}(h:b≠a):upd H a o b=H b:=by unfold upd;rw[if_neg h]
theorem c00{H:Hp}{a b:È}{o:HO}(h:H a=some o)(h':H b=none):a≠b:=by
 intro e;subst e;rw[h] at h';cases h'
section
variable (P:ç) (w:ø)
def l20(H:Hp)(h:ò)(a:È):HO->Prop
 |.lst xs=>xs.length<=sizeLine/\∃ (its:List Ã) (n:Nat),Vals xs its/\h.get? a=some { cls:=.type "list",data:=.seq its.toArray n }|.tup xs=>xs.length<=sizeLine/\∃ its:List Ã,Vals xs its/\Ï1 h a its.toArray|.dK kvs=>kvs.length<=sizeLine/\(a == sysModules)=false/\∃ vs,KV kvs vs/\h.DictOf (u61 P w) a vs
 |.dT kvs=>kvs.length<=sizeLine/\(a == sysModules)=false/\∃ xs:List (List Key × È × Ã),
   Ä5 (λ(p:List Key × V) (q:List Key × È × Ã)=>p.1=q.1/\H q.2.1=some (.tup (p.1.map kV))/\RelV p.2 q.2.2) kvs xs /\
   ∃ o es ep,h.get? a=some o/\o.ExactDict/\o.data=.dict es ep/\es.toList=xs.map (entryOfKey (tupleKind (u61 P w)))/\(xs.map (·.1)).Nodup
 |.set S n=>h.SetOf (Ñ7 P w) a S n
 |.ins C dx fs=>H dx=some (.own a)/\fs.length<=1000/\dx≠a/\h.get? a=some (PySem.W.instObj C dx) /\
   ∃ mA,h.Ns1 dx mA/\(∀ f,R32 (fs.lookup f) (mA f))/\PySem.Within mA (fs.map (·.1))
 |.own _=>∃ o,h.get? a=some o|.xd fs=>∃ mA,h.Ns1 a mA/\∀ f,R32 (fs.lookup f) (mA f)|.rng lo hi=>∃ t u v,h.get? a=some { cls:=.type "range",data:=.fields #[.int lo t,.int hi u,.int 1 v] }|.frz o u=>h.get? a=some o/\l20 H h a u|.tbl ps=>h.get? a=some { cls:=.none,data:=.fields ps }|.met f x=>h.get? a=some (methodObj (.ref f) (.ref x))|.ext φ=>φ h/\(∃ o,h.get? a=some o)/\∀ h1 h2:ò,φ h1->(∀ o,h1.get? a=some o->h2.get? a=some o)->φ h2
def HOk(H:Hp)(h:ò):Prop:=∀ a o,H a=some o->l20 P w H h a o
end
section
variable {P:ç}{w:ø}{H H':Hp}{h h':ò}{a:È}{o:HO}
theorem l20.lt(x:l20 P w H h a o):a < h.objs.size:=by
 cases o with
 |lst xs=>obtain⟨_,_,_,_,e⟩:=x;exact å e
 |tup xs=>obtain⟨_,_,_,p⟩:=x;exact p.lt
 |dK kvs=>obtain⟨_,_,_,_,o,_,_,e,_⟩:=x;exact å e
 |dT kvs=>obtain⟨_,_,_,_,o,_,_,e,_⟩:=x;exact å e
 |set S n=>obtain⟨o,_,_,_,e,_⟩:=x;exact å e
 |ins C dx fs=>obtain⟨_,_,_,e,_⟩:=x;exact å e
 |own y=>obtain⟨_,e⟩:=x;exact å e
 |xd fs=>obtain⟨_,⟨_,_,_,e,_⟩,_⟩:=x;exact å e
 |rng lo hi=>obtain⟨_,_,_,e⟩:=x;exact å e
 |frz ob u=>obtain⟨e,_⟩:=x;exact å e
 |tbl ps=>exact å (show h.get? a=some _ from x)|met f y=>exact å (show h.get? a=some _ from x)|ext φ=>obtain⟨_,⟨_,e⟩,_⟩:=x;exact å e
theorem Ä5.p32{α β:Type}{F G:α->β->Prop}:∀ {l₁:List α}{l₂:List β},Ä5 F l₁ l₂->(∀ a b,F a b->G a b)->Ä5 G l₁ l₂
 |_,_,.nil,_=>.nil|_,_,.cons r t,f=>.cons (f _ _ r) (Ä5.p32 t f)
theorem l20.L01(x:l20 P w H h a o)(k:∀ b u,(b=a∨H b=some (.own a))->h.get? b=some u->h'.get? b=some u)
  (ho:∀ b,H b=some (.own a)->H' b=some (.own a)) (ht:∀ b xs,H b=some (.tup xs)->H' b=some (.tup xs)):l20 P w H' h' a o:=by
 induction o with
 |lst xs=>obtain⟨z,its,n,r,e⟩:=x;exact⟨z,its,n,r,k _ _ (.inl rfl) e⟩
 |tup xs=>obtain⟨z,its,r,ob,e,c⟩:=x;exact⟨z,its,r,ob,k _ _ (.inl rfl) e,c⟩
 |dK kvs=>obtain⟨z,y,vs,r,ob,es,ep,e,c⟩:=x;exact⟨z,y,vs,r,ob,es,ep,k _ _ (.inl rfl) e,c⟩
 |dT kvs =>
  obtain⟨z,y,xs,r,ob,es,ep,e,c⟩:=x;exact⟨z,y,xs,Ä5.p32 r λp q z=>⟨z.1,ht _ _ z.2.1,z.2.2⟩,ob,es,ep,k _ _ (.inl rfl) e,c⟩
 |set S n=>obtain⟨ob,es,ep,t,e,c⟩:=x;exact⟨ob,es,ep,t,k _ _ (.inl rfl) e,c⟩
 |ins C dx fs =>
  obtain⟨d,z,ne,e,mA,⟨od,es,ep,e2,c⟩,r⟩:=x;exact⟨ho _ d,z,ne,k _ _ (.inl rfl) e,mA,⟨od,es,ep,k _ _ (.inr d) e2,c⟩,r⟩
 |own y=>obtain⟨ob,e⟩:=x;exact⟨ob,k _ _ (.inl rfl) e⟩
 |xd fs=>obtain⟨mA,⟨od,es,ep,e,c⟩,r⟩:=x;exact⟨mA,⟨od,es,ep,k _ _ (.inl rfl) e,c⟩,r⟩
 |rng lo hi=>obtain⟨t,u,v,e⟩:=x;exact⟨t,u,v,k _ _ (.inl rfl) e⟩
 |frz ob u ih=>obtain⟨e,q⟩:=x;exact⟨k _ _ (.inl rfl) e,ih q⟩
 |tbl ps =>
  have e:h.get? a=some { cls:=.none,data:=.fields ps }:=x;show h'.get? a=some { cls:=.none,data:=.fields ps };exact k a _ (.inl rfl) e
 |met f y =>
  have e:h.get? a=some (methodObj (.ref f) (.ref y)):=x;show h'.get? a=some (methodObj (.ref f) (.ref y));exact k a _ (.inl rfl) e
 |ext φ=>obtain⟨p,⟨o,e⟩,st⟩:=x;exact⟨st _ _ p λo q=>k _ _ (.inl rfl) q,⟨o,k _ _ (.inl rfl) e⟩,st⟩
theorem HOk.lt(x:HOk P w H h)(e:H a=some o):a < h.objs.size:=(x a o e).lt
theorem HOk.fresh(x:HOk P w H h)(e:h.objs.size<=a):H a=none:=by
 cases q:H a with
 |none=>rfl|some u=>exact absurd (Ý (x.lt q) e) (À1 _)
theorem HOk.kept(x:HOk P w H h)(k:∀ b u,h.get? b=some u->h'.get? b=some u):HOk P w H h':=λa o e =>
 (x a o e).L01 (λb u _ q=>k b u q) (λ_ q=>q) λ_ _ q=>q
theorem HOk.laid(x:HOk P w H h)(k:∀ b u,h.get? b=some u->h'.get? b=some u)(hp:h.objs.size<=a)(new:l20 P w (upd H a o) h' a o):HOk P w (upd H a o) h':=λb u e=>by
 have hn:=x.fresh hp;by_cases hb:b=a
 ·subst hb;rw[d10] at e;cases e;exact new
 ·rw[a80 hb] at e;exact(x b u e).L01 (λc v _ q=>k c v q) (λc q=>by rw[a80 (c00 q hn)];exact q) λc xs q=>by rw[a80 (c00 q hn)];exact q
end
def Rd(H:Hp)(a:È)(u:HO):Prop:=H a=some u∨∃ o,H a=some (.frz o u)
theorem Rd.ok{P:ç}{w:ø}{H:Hp}{h:ò}{a:È}{u:HO}(r:Rd H a u)(x:HOk P w H h):l20 P w H h a u:=by
 rcases r with r | ⟨o,r⟩
 ·exact x a u r
 ·obtain⟨_,q⟩:=x a _ r;exact q
def Mut:Option HO->Prop
 |some (.lst _)=>True|some (.dK _)=>True|some (.dT _)=>True|some (.set _ _)=>True|some (.ins _ _ _)=>True|some (.ext _)=>True|_=>False
section
variable {P:ç}{w:ø}{H:Hp}{h h':ò}{x e:È}{o':HO}
theorem HOk.write(ok:HOk P w H h)(mu:Mut (H x))(he:e=x∨H e=some (.own x))(k:∀ b u,b≠e->h.get? b=some u->h'.get? b=some u)(heo:∃ u,h'.get? e=some u)
  (new:l20 P w (upd H x o') h' x o'):HOk P w (upd H x o') h':=λb u q=>by
 have nown:∀ c y,H c=some (.own y)->c≠x:=λc y r z=>by subst z;rw[r] at mu;exact mu
 have ntup:∀ c xs,H c=some (.tup xs)->c≠x:=λc xs r z=>by subst z;rw[r] at mu;exact mu
 by_cases hb:b=x
 ·subst hb;rw[d10] at q;cases q;exact new
 ·rw[a80 hb] at q;by_cases hbe:b=e
  ·have q':H b=some (.own x):=by
    rcases he with z | z
    ·exact absurd (hbe.trans z) hb
    ·rw[hbe];exact z
   rw[q] at q';cases q';obtain⟨v,hv⟩:=heo;exact⟨v,by rw[hbe];exact hv⟩
  ·refine(ok b u q).L01 (λc v hc r=>k c v ?_ r) (λc r=>by rw[a80 (nown c b r)];exact r) λc xs r=>by rw[a80 (ntup c xs r)];exact r
   rcases hc with rfl | hc
   ·exact hbe
   ·rintro rfl;rcases he with z | z
    ·exact nown c b hc z
    ·rw[hc] at z;cases z;exact hb rfl
end
structure Un(fs ex:List Addr)(H H':Hp)(h h':Heap):Prop where
 keep:∀ b o,h.get? b=some o->H b=none->b ∉ fs->b ∉ ex->h'.get? b=some o
 slot:∀ b o,h.get? b=some o->H b=none->b∈fs->b ∉ ex->∃ sl,h'.get? b=some { o with slots:=sl }
 free:∀ b o,h.get? b=some o->H b=none->b ∉ ex->H' b=none
 there:∀ b o,h.get? b=some o->b ∉ ex->∃ o',h'.get? b=some o'
 tups:∀ b xs,H b=some (.tup xs)->H' b=some (.tup xs)
 frzs:∀ b o u,H b=some (.frz o u)->H' b=some (.frz o u)
 tbls:∀ b ps,H b=some (.tbl ps)->∃ more,H' b=some (.tbl (ps++more))
section
variable {fs fs' ex ex':List È}{H H1 H2:Hp}{h h1 h2 h':ò}{a x e:È}{o:HO}
theorem Un.any(u:Un fs ex H H1 h h1){b:È}{ob:Obj}(q:h.get? b=some ob)(n:H b=none)(hx:b ∉ ex):∃ sl,h1.get? b=some { ob with slots:=sl }:=by
 by_cases hb:b∈fs
 ·exact u.slot b ob q n hb hx
 ·exact⟨ob.slots,u.keep b ob q n hb hx⟩
theorem Un.trans(a:Un fs ex H H1 h h1)(b:Un fs ex H1 H2 h1 h2):Un fs ex H H2 h h2 where
 keep:=λc ob q n hc hx=>b.keep c ob (a.keep c ob q n hc hx) (a.free c ob q n hx) hc hx
 slot:=λc ob q n hc hx=>by
  obtain⟨sl,e1⟩:=a.slot c ob q n hc hx;obtain⟨sl',e2⟩:=b.slot c _ e1 (a.free c ob q n hx) hc hx;exact⟨sl',e2⟩
 free:=λc ob q n hx=>by
  obtain⟨o',e1⟩:=a.there c ob q hx;exact b.free c o' e1 (a.free c ob q n hx) hx
 there:=λc ob q hx=>by
  obtain⟨o',e1⟩:=a.there c ob q hx;exact b.there c o' e1 hx
 tups:=λc xs q=>b.tups c xs (a.tups c xs q)
 frzs:=λc ob xs q=>b.frzs c ob xs (a.frzs c ob xs q)
 tbls:=λc ps q=>by
  obtain⟨m1,e1⟩:=a.tbls c ps q;obtain⟨m2,e2⟩:=b.tbls c _ e1;exact⟨m1++m2,by rw[e2,Array.append_assoc]⟩
theorem Un.kept(k:∀ b u,h.get? b=some u->h'.get? b=some u):Un fs ex H H h h' :=
 ⟨λb ob q _ _ _=>k b ob q,λb ob q _ _ _=>⟨ob.slots,k b ob q⟩,λ_ _ _ n _=>n,λb ob q _=>⟨ob,k b ob q⟩,λ_ _ q=>q,λ_ _ _ q=>q,λ_ ps q=>⟨#[],by rw[q];simp⟩⟩
theorem Un.refl:Un fs ex H H h h:=Un.kept λ_ _ q=>q
theorem Un.laid(k:∀ b u,h.get? b=some u->h'.get? b=some u)(hp:h.objs.size<=a)(hn:H a=none):Un fs ex H (upd H a o) h h' where
 keep:=λb u q _ _ _=>k b u q
 slot:=λb u q _ _ _=>⟨u.slots,k b u q⟩
 free:=λb u q n _=>by rw[a80 (ß (Ý (å q) hp))];exact n
 there:=λb u q _=>⟨u,k b u q⟩
 tups:=λb xs q=>by rw[a80 (c00 q hn)];exact q
 frzs:=λb u xs q=>by rw[a80 (c00 q hn)];exact q
 tbls:=λb ps q=>⟨#[],by rw[a80 (c00 q hn),q];simp⟩
theorem Un.write(mu:Mut (H x))(he:e=x∨H e=some (.own x))(k:∀ b u,b≠e->h.get? b=some u->h'.get? b=some u)(heo:∃ u,h'.get? e=some u):Un fs ex H (upd H x o) h h':=by
 have hx:∀ b,H b=none->b≠x:=λb n z=>by subst z;rw[n] at mu;exact mu
 have hb:∀ b,H b=none->b≠e:=λb n z=>by
  subst z;rcases he with r | r
  ·exact hx b n r
  ·rw[n] at r;cases r
 have hm:∀ b u,H b=some u->¬ Mut (some u)->b≠x:=λb u q nm z=>by subst z;rw[q] at mu;exact nm mu
 refine⟨λb u q n _ _=>k b u (hb b n) q,λb u q n _ _=>⟨u.slots,k b u (hb b n) q⟩,λb u q n _=>by rw[a80 (hx b n)];exact n,λb u q _=>?_,
  λb xs q=>by rw[a80 (hm b _ q λz=>z)];exact q,λb u xs q=>by rw[a80 (hm b _ q λz=>z)];exact q,λb ps q=>⟨#[],by rw[a80 (hm b _ q λz=>z),q];simp⟩⟩
 by_cases hbe:b=e
 ·subst hbe;exact heo
 ·exact⟨u,k b u hbe q⟩
theorem Un.mono(u:Un fs ex H H1 h h1)(hs:∀ b∈fs,b∈fs')(hx:∀ b∈ex,b∈ex'):Un fs' ex' H H1 h h1 :=
 ⟨λb ob q n hb he=>u.keep b ob q n (λz=>hb (hs b z)) λz=>he (hx b z),λ_ _ q n _ he=>u.any q n λz=>he (hx _ z),λb ob q n he=>u.free b ob q n λz=>he (hx b z),λb ob q he=>u.there b ob q λz=>he (hx b z),u.tups,u.frzs,u.tbls⟩
end
def trk(h:ò)(H:Hp):List Addr:=(Ø h.objs.size).filter λa=>(H a).isSome
def L11(h:ò)(H:Hp):Heap:=hideAll h (trk h H)
theorem u71(h:ò)(H:Hp):(L11 h H).objs.size=h.objs.size:=PySem.W.hideAll_size _ _
theorem N00{h:ò}{H:Hp}{b:È}{o:Obj}(e:h.get? b=some o)(n:H b=none):(L11 h H).get? b=some o :=
 hideAll_get _ e λhm=>by
  have q:(H b).isSome=true:=(Æ1.mp hm).2;rw[n] at q;simp at q
theorem b22{h:ò}{H:Hp}{b:È}{o:Obj}(e:(L11 h H).get? b=some o):h.get? b=some o/\H b=none:=by
 have e':h.get? b=some o:=of_hideAll (trk h H) e;refine⟨e',?_⟩;cases q:H b with
 |none=>rfl
 |some x =>
  have hm:b∈trk h H:=Æ1.mpr ⟨é.mpr (å e'),by simp[q]⟩
  have z:(L11 h H).get? b=none:=PySem.W.hideAll_none (trk h H) hm;rw[z] at e;cases e
structure Mod(K:PySem.W.Frag)(mg:Str->Option Value)(base:Heap):Prop where
 kin:K.In base
 glob:base.Ns mainGlobals mg
 blt:∃ mb,base.Ns builtinsNs mb/\∀ x:Str,x≠"__name__"->mb x=bootBuiltins x
 nolimit:base.NoLimit
structure Cx where
 prog:Program
 w:World
 K:PySem.W.Frag
 mg:Str->Option Value
 base:Heap
 A:Around
 N:List Str
 s₀:Shared
 H₀:Hp
 env:Env
 outer:List Env
 stack:List Env
 ex:List Addr
 fn:Str->Bool
 calm:Bool
 pn:List (Addr × Obj)
 xe:Value->Shared->Prop
def frs(l:List Env):List Addr:=l.filterMap (·.frame)
abbrev Cx.fs(X:Cx):List Addr:=frs X.outer
def Vis(sc:Á2)(x:Str):Prop:=sc.names.lookup x=some .local∨sc.names.lookup x=some .cell∨sc.names.lookup x=some .free
def Loc(sc:Á2)(x:Str):Prop:=sc.names.lookup x=some .local∨sc.names.lookup x=some .cell
def Look(env:Env)(h:ò)(m:Str->Option Ã)(x:Str)(u:Ã):Prop :=
 (env.kindOf x=some .local/\m x=some u)∨((env.kindOf x=some .cell∨env.kindOf x=some .free)/\∃ c,env.cells.lookup x=some c/\h.IsCell c (some u))
structure Cx.Ok(X:Cx):Prop where
 mod:Mod X.K X.mg X.base
 kind:X.env.scope.kind=.function
 glob:X.env.globals=mainGlobals
 blt:X.env.builtins=builtinsNs
 above:X.s₀.heap.objs.size<=X.env.locals
 inj:∀ x y c,X.env.cells.lookup x=some c->X.env.cells.lookup y=some c->x=y
 has:∀ x,(X.env.kindOf x=some .cell∨X.env.kindOf x=some .free)->∃ c,X.env.cells.lookup x=some c
 cab:∀ x c,X.fn x=true->X.env.cells.lookup x=some c->X.s₀.heap.objs.size<=c
 hd:X.calm=true->X.A.handled=none
 frames:X.A.frames=some X.stack
 stk:X.stack=X.outer∨(X.stack=X.env::X.outer/\X.env.frame=some X.env.locals)
 exf:∀ b∈X.ex,b≠X.env.locals/\∀ x c,X.env.cells.lookup x=some c->c≠b
 bs:∀ b o,X.base.get? b=some o->X.s₀.heap.get? b=some o/\X.H₀ b=none
 bsz:X.base.objs.size<=X.s₀.heap.objs.size
 noex:∀ b o,X.base.get? b=some o->b ∉ X.ex
 exfs:∀ b∈X.ex,b ∉ X.fs
 K61:X.s₀.heap.FunFrames X.base X.outer
 frf:∀ b∈X.fs,X.H₀ b=none
structure Inv(X:Cx)(pins:List (Addr × Obj))(σ:List (Option V))(H:Hp)(s:Shared):Prop where
 ok:X.Ok
 os:s.os=X.s₀.os
 bare:AllBare s.gens
 base:Un X.fs X.ex X.H₀ H X.s₀.heap s.heap
 loc:∃ m,s.heap.Ns X.env.locals m/\∀ (i:Nat) (x:Str) (v:V),X.N[i]?=some x->σ[i]?=some (some v)->Vis X.env.scope x->∃ u,RelV v u/\Look X.env s.heap m x u
 cell:∀ x c,X.env.cells.lookup x=some c->∃ v,s.heap.IsCell c v
 free:H X.env.locals=none
 freeC:∀ x c,X.env.cells.lookup x=some c->H c=none
 pin:∀ p∈X.pn++pins,s.heap.get? p.1=some p.2/\H p.1=none/\p.1≠X.env.locals/\p.1 ∉ X.fs/\∀ v,p.2.data≠.cell v
 hok:HOk X.prog X.w H s.heap
 len:σ.length=X.N.length
section
variable {X:Cx}{pins:List (È × Obj)}{σ:List (Option V)}{H H':Hp}{s:Æ}{h':ò}
theorem Cx.Ok.U12(ok:X.Ok){b:È}{o:Obj}(e:X.base.get? b=some o):b ∉ X.fs:=λhb=>by
 have:=(ok.K61.mem hb).1;rw[e] at this;cases this
theorem Inv.bs(I:Inv X pins σ H s):∀ b o,X.base.get? b=some o->s.heap.get? b=some o/\H b=none:=λb o e =>
 ⟨I.base.keep b o (I.ok.bs b o e).1 (I.ok.bs b o e).2 (I.ok.U12 e) (I.ok.noex b o e),I.base.free b o (I.ok.bs b o e).1 (I.ok.bs b o e).2 (I.ok.noex b o e)⟩
theorem Inv.bk(I:Inv X pins σ H s):∀ b o,X.base.get? b=some o->s.heap.get? b=some o:=λb o e=>(I.bs b o e).1
theorem Inv.mod(I:Inv X pins σ H s):Mod X.K X.mg X.base:=I.ok.mod
theorem Inv.kIn(I:Inv X pins σ H s):X.K.In s.heap:=I.ok.mod.kin.keeps I.bk
theorem Inv.lt(I:Inv X pins σ H s):X.env.locals < s.heap.objs.size:=let ⟨_,hn,_⟩:=I.loc;hn.lt
theorem Inv.sz(I:Inv X pins σ H s):X.s₀.heap.objs.size<=s.heap.objs.size:=Ù I.ok.above (Í5 I.lt)
theorem Inv.U22(I:Inv X pins σ H s){a:È}(h:s.heap.objs.size<=a):a ∉ X.fs:=λhb=>by
 obtain⟨_,o,ho,_⟩:=I.ok.K61.mem hb;exact absurd (Ý (å ho) (Ù I.sz h)) (À1 _)
theorem Inv.cne(I:Inv X pins σ H s):∀ x c,X.env.cells.lookup x=some c->c≠X.env.locals:=λx c e z=>by
 obtain⟨v,o,ho,hd⟩:=I.cell x c e;obtain⟨m,⟨o',es,ep,ho',hd',_⟩,_⟩:=I.loc;rw[z,ho'] at ho;cases ho;rw[hd'] at hd;cases hd
theorem Inv.K61(I:Inv X pins σ H s):s.heap.FunFrames X.base X.outer:=by
 have all:∀ (l:List Env),(∀ b∈frs l,b∈X.fs)->X.s₀.heap.FunFrames X.base l->s.heap.FunFrames X.base l:=by
  intro l
  induction l with
  |nil=>intro _ _;trivial
  |cons env r ih =>
   intro hs hl;obtain⟨hk,⟨L,o,hf,hn,ho,hd⟩,hr⟩:=hl;have hL:L∈X.fs:=hs L (by unfold frs;rw[Â0,hf];exact Ç)
   obtain⟨sl,e⟩:=I.base.slot L o ho (I.ok.frf L hL) hL λz=>I.ok.exfs L z hL;exact⟨hk,⟨L,_,hf,hn,e,hd⟩,ih (λb hb=>hs b (by unfold frs;rw[Â0,hf];exact É _ hb)) hr⟩
 exact all X.outer (λ_ hb=>hb) I.ok.K61
theorem Inv.stack(I:Inv X pins σ H s):s.heap.FunFrames X.base X.stack:=by
 rcases I.ok.stk with e | ⟨e,hf⟩
 ·rw[e];exact I.K61
 ·rw[e];obtain⟨m,hn,_⟩:=I.loc;refine .cons (by rw[I.ok.kind];decide) hf hn ?_ I.K61
  exact ò.get?_none_of_le (Ù I.ok.bsz I.ok.above)
theorem Inv.u81(I:Inv X pins σ H s):∀ b∈frs X.stack,b∈X.env.locals::X.fs:=λb hb=>by
 rcases I.ok.stk with e | ⟨e,hf⟩
 ·rw[e] at hb;exact É _ hb
 ·rw[e] at hb;unfold frs at hb;rw[Â0,hf] at hb;exact hb
theorem Inv.b51(I:Inv X pins σ H s):∀ b∈frs X.stack,H b=none:=λb hb=>by
 rcases à.mp (I.u81 b hb) with e | hb
 ·rw[e];exact I.free
 ·obtain⟨_,o,ho,_⟩:=I.ok.K61.mem hb;exact I.base.free b o ho (I.ok.frf b hb) λz=>I.ok.exfs b z hb
theorem Inv.step{g':Array GenState}{t':Nat}{d':Drawn}{ch:List È}(I:Inv X pins σ H s)
  (hch:∀ b∈ch,(b∈X.ex∨X.s₀.heap.objs.size<=b)/\b≠X.env.locals/\(∀ x c,X.env.cells.lookup x=some c->c≠b)/\∀ p∈X.pn++pins,p.1≠b)
  (keep:∀ b o,b≠X.env.locals->b ∉ X.fs->b ∉ ch->s.heap.get? b=some o->H b=none->h'.get? b=some o)
  (slot:∀ b o,b≠X.env.locals->b∈X.fs->b ∉ ch->s.heap.get? b=some o->H b=none->∃ sl,h'.get? b=some { o with slots:=sl }) (free:∀ b o,b ∉ ch->s.heap.get? b=some o->H b=none->H' b=none)
  (there:∀ b o,b ∉ ch->s.heap.get? b=some o->∃ o',h'.get? b=some o')
  (tups:∀ b xs,H b=some (.tup xs)->H' b=some (.tup xs)) (frzs:∀ b o u,H b=some (.frz o u)->H' b=some (.frz o u)) (tbls:∀ b ps,H b=some (.tbl ps)->∃ more,H' b=some (.tbl (ps++more)))
  (ns:∀ m,s.heap.Ns X.env.locals m->h'.Ns X.env.locals m) (hok:HOk X.prog X.w H' h') (hg:Ô1 g') :
  Inv X pins σ H' { s with heap:=h',gens:=g',drawn:=d',toks:=t' }:=by
 have neL:∀ b o,X.s₀.heap.get? b=some o->b≠X.env.locals:=λb o e=>ß (Ý (å e) I.ok.above);have neC:∀ b o,X.s₀.heap.get? b=some o->b ∉ X.ex->b ∉ ch:=λb o e hx hb=>by
  rcases (hch b hb).1 with z | z
  ·exact hx z
  ·exact absurd (Ý (å e) z) (À1 _)
 have cellK:∀ x c,X.env.cells.lookup x=some c->∀ v,s.heap.IsCell c v->h'.IsCell c v:=λx c e v ⟨o,ho,hd⟩=>by
  have nch:c ∉ ch:=λz=>(hch c z).2.2.1 x c e rfl;by_cases hc:c∈X.fs
  ·obtain⟨sl,q⟩:=slot c o (I.cne x c e) hc nch ho (I.freeC x c e);exact⟨_,q,hd⟩
  ·exact⟨o,keep c o (I.cne x c e) hc nch ho (I.freeC x c e),hd⟩
 refine⟨I.ok,I.os,hg,⟨λb o e n hb hx=>?_,λb o e n hb hx=>?_,λb o e n hx=>?_,λb o e hx=>?_,λb xs e=>tups b xs (I.base.tups b xs e),λb o xs e=>frzs b o xs (I.base.frzs b o xs e),λb ps e=>?_⟩,?_,λx c e=>?_,?_,λx c e=>?_,λp hp=>?_,hok,I.len⟩
 ·exact keep b o (neL b o e) hb (neC b o e hx) (I.base.keep b o e n hb hx) (I.base.free b o e n hx)
 ·obtain⟨sl,e1⟩:=I.base.slot b o e n hb hx;obtain⟨sl',e2⟩:=slot b _ (neL b o e) hb (neC b o e hx) e1 (I.base.free b o e n hx);exact⟨sl',e2⟩
 ·obtain⟨o',e1⟩:=I.base.there b o e hx;exact free b o' (neC b o e hx) e1 (I.base.free b o e n hx)
 ·obtain⟨o',e1⟩:=I.base.there b o e hx;exact there b o' (neC b o e hx) e1
 ·obtain⟨m1,e1⟩:=I.base.tbls b ps e;obtain⟨m2,e2⟩:=tbls b _ e1;exact⟨m1++m2,by rw[e2,Array.append_assoc]⟩
 ·obtain⟨m,hn,hl⟩:=I.loc;refine⟨m,ns m hn,λi x v e1 e2 e3=>?_⟩;obtain⟨u,r,l⟩:=hl i x v e1 e2 e3;refine⟨u,r,?_⟩;rcases l with l | ⟨k,c,e,z⟩
  ·exact .inl l
  ·exact .inr ⟨k,c,e,cellK x c e _ z⟩
 ·obtain⟨v,z⟩:=I.cell x c e;exact⟨v,cellK x c e v z⟩
 ·obtain⟨m,⟨o,_,_,ho,_⟩,_⟩:=I.loc;exact free _ o (λz=>(hch _ z).2.1 rfl) ho I.free
 ·obtain⟨v,o,ho,hd⟩:=I.cell x c e;exact free c o (λz=>(hch c z).2.2.1 x c e rfl) ho (I.freeC x c e)
 ·obtain⟨e,n,ne,nf,d⟩:=I.pin p hp;have nch:p.1 ∉ ch:=λz=>(hch p.1 z).2.2.2 p hp rfl;exact⟨keep p.1 p.2 ne nf nch e n,free p.1 p.2 nch e n,ne,nf,d⟩
theorem Inv.un{t':Nat}(I:Inv X pins σ H s)(u:Un X.fs [] H H' s.heap h')(hok:HOk X.prog X.w H' h'):Inv X pins σ H' { s with heap:=h',toks:=t' }:=by
 obtain⟨m,⟨o,es,ep,ho,r⟩,_⟩:=id I.loc;obtain⟨sl,hL⟩:=u.any ho I.free (by simp)
 exact I.step (g':=s.gens) (d':=s.drawn) (ch:=[]) (λ_ z=>nomatch z) (λb o _ hb _ e n=>u.keep b o e n hb (by simp)) (λb o _ hb _ e n=>u.slot b o e n hb (by simp)) (λb o _ e n=>u.free b o e n (by simp)) (λb o _ e=>u.there b o e (by simp)) u.tups u.frzs u.tbls (λm' hm=>by
  obtain⟨o',es',ep',ho',r'⟩:=hm;rw[ho] at ho';cases ho';exact⟨_,es',ep',hL,r'⟩) hok I.bare
theorem Inv.call{g':Array GenState}{t':Nat}{d':Drawn}{ch:List È}(I:Inv X pins σ H s)(u:Un (frs X.stack) ch H H' s.heap h')(hok:HOk X.prog X.w H' h')(hg:Ô1 g')
  (hch:∀ b∈ch,(b∈X.ex∨X.s₀.heap.objs.size<=b)/\b≠X.env.locals/\(∀ x c,X.env.cells.lookup x=some c->c≠b)/\∀ p∈X.pn++pins,p.1≠b) :
  Inv X pins σ H' { s with heap:=h',gens:=g',drawn:=d',toks:=t' }:=by
 obtain⟨m,⟨o,es,ep,ho,r⟩,_⟩:=id I.loc;obtain⟨sl,hL⟩:=u.any ho I.free λz=>(hch _ z).2.1 rfl;exact I.step (ch:=ch) hch (λb o hL hb hc e n=>u.keep b o e n (λz=>(à.mp (I.u81 b z)).elim hL hb) hc) (λb o _ _ hc e n=>u.any e n hc) (λb o hc e n=>u.free b o e n hc) (λb o hc e=>u.there b o e hc) u.tups u.frzs u.tbls (λm' hm=>by
  obtain⟨o',es',ep',ho',r'⟩:=hm;rw[ho] at ho';cases ho';exact⟨_,es',ep',hL,r'⟩) hok hg
theorem Inv.turned{t':Nat}{it:È}(I:Inv X pins σ H s)(k:∀ b o,b≠it->s.heap.get? b=some o->h'.get? b=some o)(hn:H it=none)(hL:it≠X.env.locals)
  (h1:it∈X.ex∨X.s₀.heap.objs.size<=it) (h2:∀ x c,X.env.cells.lookup x=some c->c≠it) (h3:∀ p∈X.pn++pins,p.1≠it):Inv X pins σ H { s with heap:=h',toks:=t' }:=by
 have nit:∀ b u,H b=some u->b≠it:=λb u e z=>by rw[z,hn] at e;cases e
 refine I.step (g':=s.gens) (d':=s.drawn) (ch:=[it]) (λb hb=>?_) (λb o _ _ hc e _=>k b o (λz=>hc (by simp[z])) e) (λb o _ _ hc e _=>⟨o.slots,k b o (λz=>hc (by simp[z])) e⟩) (λ_ _ _ _ n=>n)
  (λb o hc e=>⟨o,k b o (λz=>hc (by simp[z])) e⟩) (λ_ _ e=>e) (λ_ _ _ e=>e) (λb ps e=>⟨#[],by rw[e];simp⟩) (λm hm=>?_) (λb u e=>?_) I.bare
 ·have e:b=it:=by simpa using hb
  subst e;exact⟨h1,hL,h2,h3⟩
 ·obtain⟨o,es,ep,ho,r⟩:=hm;exact⟨o,es,ep,k _ o (Â4 hL) ho,r⟩
 ·refine(I.hok b u e).L01 (λc v hc q=>k c v ?_ q) (λ_ q=>q) λ_ _ q=>q;rcases hc with z | z
  ·rw[z];exact nit b u e
  ·exact nit c _ z
theorem Inv.tok(I:Inv X pins σ H s)(t:Nat):Inv X pins σ H { s with toks:=t }:=I.un (h':=s.heap) (t':=t) Un.refl I.hok
theorem Inv.kept{t':Nat}(I:Inv X pins σ H s)(k:∀ b u,s.heap.get? b=some u->h'.get? b=some u):Inv X pins σ H { s with heap:=h',toks:=t' }:=I.un (Un.kept k) (I.hok.kept k)
theorem Inv.laid{a:È}{o:HO}{t':Nat}(I:Inv X pins σ H s)(k:∀ b u,s.heap.get? b=some u->h'.get? b=some u)(hp:s.heap.objs.size<=a)(new:l20 X.prog X.w (upd H a o) h' a o) :
  Inv X pins σ (upd H a o) { s with heap:=h',toks:=t' }:=I.un (Un.laid k hp (I.hok.fresh hp)) (I.hok.laid k hp new)
theorem Inv.write{x e:È}{o:HO}{t':Nat}(I:Inv X pins σ H s)(mu:Mut (H x))(he:e=x∨H e=some (.own x))(k:∀ b u,b≠e->s.heap.get? b=some u->h'.get? b=some u)(heo:∃ u,h'.get? e=some u)
  (new:l20 X.prog X.w (upd H x o) h' x o):Inv X pins σ (upd H x o) { s with heap:=h',toks:=t' }:=I.un (Un.write mu he k heo) (I.hok.write mu he k heo new)
theorem Inv.F50{pins':List (È × Obj)}(I:Inv X pins σ H s)(h:∀ p∈pins',s.heap.get? p.1=some p.2/\H p.1=none/\p.1≠X.env.locals/\p.1 ∉ X.fs/\∀ v,p.2.data≠.cell v):Inv X pins' σ H s :=
 ⟨I.ok,I.os,I.bare,I.base,I.loc,I.cell,I.free,I.freeC,λp hp=>(ó.mp hp).elim (λz=>I.pin p (Á4 _ z)) (h p),I.hok,I.len⟩
theorem h91{N:List Str}(hN:N.Nodup){i j:Nat}{x:Str}(a:N[i]?=some x)(b:N[j]?=some x):i=j:=by
 obtain⟨h1,e1⟩:=Þ.mp a;obtain⟨h2,e2⟩:=Þ.mp b;exact(getElem_inj hN).mp (e1.trans e2.symm)
theorem U20{M:Model}{A:ý}{E:Ã->Æ->Prop}{i:Nat}{x:Str}{v:V}{u:Ã}{Q:Unit->Æ->Prop}(I:Inv X pins σ H s)(hN:X.N.Nodup)(hi:X.N[i]?=some x)(hx:Loc X.env.scope x)(r:RelV v u)
  (h:∀ s',Inv X pins (σ.set i (some v)) H s'->(∃ a,Þ0 a s.heap s'.heap/\(a=X.env.locals∨X.env.cells.lookup x=some a))->Q () s') (hf:X.fn x=true∨X.env.scope.names.lookup x=some .local:=by first | exact .inl rfl | exact .inr rfl | assumption):Ô M A (storeName X.env x u) Q E s:=by
 obtain⟨m,hn,hl⟩:=id I.loc;have hcls:(X.env.scope.kind == .class || (X.env.scope.kind == .module&&X.env.locals != X.env.globals))=false:=by rw[I.ok.kind];rfl
 have hiσ:i < σ.length:=by rw[I.len];exact(Þ.mp hi).1
 have cne:=I.cne;have tracked:∀ {a:È}{h':ò},(∃ o,s.heap.get? a=some o/\H a=none)->Þ0 a s.heap h'->HOk X.prog X.w H h':=λ{a h'} ha hs b ob e=>by
  obtain⟨_,_,hfree⟩:=ha;refine(I.hok b ob e).L01 (λc w' hc q=>(hs.2 c ?_).trans q) (λ_ q=>q) λ_ _ q=>q;rintro rfl;rcases hc with rfl | hc
  ·rw[hfree] at e;cases e
  ·rw[hfree] at hc;cases hc
 rcases hx with hk | hk
 ·refine wpAny_storeName_local hk hn (λh' hn' hs=>?_) hcls;obtain⟨oL,_,_,hoL,_⟩:=id hn;refine h _ ⟨I.ok,I.os,I.bare,⟨λb o e n hb hx=>?_,λb o e n hb hx=>?_,I.base.free,λb o e hx=>?_,I.base.tups,I.base.frzs,I.base.tbls⟩,⟨_,hn',λj y v' e1 e2 e3=>?_⟩,λy c e=>?_,I.free,I.freeC,λp hp=>?_,tracked ⟨oL,hoL,I.free⟩ hs,by simpa using I.len⟩ ⟨_,hs,.inl rfl⟩
  ·exact(hs.2 b (ß (Ý (å e) I.ok.above))).trans (I.base.keep b o e n hb hx)
  ·obtain⟨sl,e1⟩:=I.base.slot b o e n hb hx;exact⟨sl,(hs.2 b (ß (Ý (å e) I.ok.above))).trans e1⟩
  ·obtain⟨o',e1⟩:=I.base.there b o e hx;exact⟨o',(hs.2 b (ß (Ý (å e) I.ok.above))).trans e1⟩
  ·by_cases hj:j=i
   ·subst hj;rw[hi] at e1;cases e1;rw[ï hiσ] at e2;cases e2;exact⟨u,r,.inl ⟨hk,by simp⟩⟩
   ·rw[ë (Â4 hj)] at e2;obtain⟨u',r',q⟩:=hl j y v' e1 e2 e3;refine⟨u',r',?_⟩;rcases q with ⟨k,e⟩ | ⟨k,c,e,z⟩
    ·refine .inl ⟨k,?_⟩;have:y≠x:=λe=>hj (h91 hN e1 (e ▸ hi));simp[this,e]
    ·exact .inr ⟨k,c,e,z.sameBut hs (cne y c e)⟩
  ·obtain⟨w',z⟩:=I.cell y c e;exact⟨w',z.sameBut hs (cne y c e)⟩
  ·obtain⟨e,n,ne,nf,d⟩:=I.pin p hp;exact⟨(hs.2 p.1 ne).trans e,n,ne,nf,d⟩
 ·have hfn:X.fn x=true:=by
   rcases hf with z | z
   ·exact z
   ·rw[z] at hk;cases hk
  obtain⟨c,hc⟩:=I.ok.has x (.inl hk);obtain⟨w',z⟩:=I.cell x c hc;refine wpAny_storeName_cell I.ok.kind hk hc z (λh' hc' hs=>?_);obtain⟨oc,hoc,hocd⟩:=id z;refine h { s with heap:=h' } ⟨I.ok,I.os,I.bare,⟨λb o e n hb hx=>?_,λb o e n hb hx=>?_,I.base.free,λb o e hx=>?_,I.base.tups,I.base.frzs,I.base.tbls⟩,⟨m,hn.sameBut hs (Â4 (cne x c hc)),λj y v' e1 e2 e3=>?_⟩,λy c' e=>?_,I.free,I.freeC,λp hp=>?_,tracked ⟨oc,hoc,I.freeC x c hc⟩ hs,by simpa using I.len⟩ ⟨c,hs,.inr hc⟩
  ·exact(hs.2 b (ß (Ý (å e) (I.ok.cab x c hfn hc)))).trans (I.base.keep b o e n hb hx)
  ·obtain⟨sl,e1⟩:=I.base.slot b o e n hb hx;exact⟨sl,(hs.2 b (ß (Ý (å e) (I.ok.cab x c hfn hc)))).trans e1⟩
  ·obtain⟨o',e1⟩:=I.base.there b o e hx;exact⟨o',(hs.2 b (ß (Ý (å e) (I.ok.cab x c hfn hc)))).trans e1⟩
  ·by_cases hj:j=i
   ·subst hj;rw[hi] at e1;cases e1;rw[ï hiσ] at e2;cases e2;exact⟨u,r,.inr ⟨.inl hk,c,hc,hc'⟩⟩
   ·rw[ë (Â4 hj)] at e2;obtain⟨u',r',q⟩:=hl j y v' e1 e2 e3;refine⟨u',r',?_⟩;rcases q with q | ⟨k,c',e,z'⟩
    ·exact .inl q
    ·refine .inr ⟨k,c',e,z'.sameBut hs ?_⟩;rintro rfl;exact hj (h91 hN e1 (I.ok.inj _ _ _ e hc ▸ hi))
  ·by_cases hcc:c'=c
   ·subst hcc;exact⟨_,hc'⟩
   ·obtain⟨w2,z2⟩:=I.cell y c' e;exact⟨w2,z2.sameBut hs hcc⟩
  ·obtain⟨e,n,ne,nf,d⟩:=I.pin p hp;refine⟨(hs.2 p.1 ?_).trans e,n,ne,nf,d⟩;intro q;rw[q,hoc] at e;have q':oc=p.2:=Á5 e;exact d w' (by rw[← q'];exact hocd)
theorem w80{M:Model}{A:ý}{E:Ã->Æ->Prop}{i:Nat}{x:Str}{v:V}{u:Ã}{Q:Unit->Æ->Prop}(I:Inv X pins σ H s)(hN:X.N.Nodup)(hi:X.N[i]?=some x)(hx:Loc X.env.scope x)(r:RelV v u)
  (h:∀ s',Inv X pins (σ.set i (some v)) H s'->Q () s') (hf:X.fn x=true∨X.env.scope.names.lookup x=some .local:=by first | exact .inl rfl | exact .inr rfl | assumption):Ô M A (storeName X.env x u) Q E s :=
 U20 I hN hi hx r (λs' I' _=>h s' I') hf
theorem Inv.G92{s':Æ}{ch:List È}(I:Inv X pins σ H s)(ho:s'.os=s.os)(u:Un (frs X.stack) ch H H' s.heap s'.heap)(hok:HOk X.prog X.w H' s'.heap)(hg:Ô1 s'.gens)
  (hch:∀ b∈ch,(b∈X.ex∨X.s₀.heap.objs.size<=b)/\b≠X.env.locals/\(∀ x c,X.env.cells.lookup x=some c->c≠b)/\∀ p∈X.pn++pins,p.1≠b):Inv X pins σ H' s':=by
 obtain⟨h',g',d',t',o'⟩:=s';have e:o'=s.os:=ho;subst e;exact I.call (g':=g') (t':=t') (d':=d') u hok hg hch
end
abbrev XK:=Ã->Option È->Hp->Prop
abbrev St:=List (Option V)
abbrev VK:=V->Hp->Prop
abbrev TE:=St->Hp->VK->Prop
abbrev TT:=St->Hp->(Bool->Hp->Prop)->Prop
abbrev TA:=St->Hp->(List V->Hp->Prop)->Prop
structure Ends where
 nx:St->Hp->Prop
 rt:VK
 bk:St->Hp->Prop:=λ_ _=>False
 ct:St->Hp->Prop:=λ_ _=>False
abbrev TS:=Ends->St->Hp->Prop
def EP(X:Cx)(pins:List (È × Obj))(σ:St)(Q:VK)(u:Ã)(s':Æ):Prop:=∃ v H',Inv X pins σ H' s'/\RelV v u/\Q v H'
def TP(X:Cx)(pins:List (È × Obj))(σ:St)(Q:Bool->Hp->Prop)(b:Bool)(s':Æ):Prop:=∃ H',Inv X pins σ H' s'/\Q b H'
def AP(X:Cx)(pins:List (È × Obj))(σ:St)(Q:List V->Hp->Prop)(us:List Ã)(s':Æ):Prop:=∃ vs H',Inv X pins σ H' s'/\Vals vs us/\Q vs H'
def SP(X:Cx)(pins:List (È × Obj))(D:Ends)(f:Flow)(s':Æ):Prop :=
 match f with
 |.next=>∃ σ' H',Inv X pins σ' H' s'/\D.nx σ' H'
 |.brk=>∃ σ' H',Inv X pins σ' H' s'/\D.bk σ' H'|.cont=>∃ σ' H',Inv X pins σ' H' s'/\D.ct σ' H'|.ret u=>∃ v σ' H',Inv X pins σ' H' s'/\RelV v u/\D.rt v H'
def PE(X:Cx)(e:Ò)(t:TE):Prop :=
 ∀ (pins:List (È × Obj)) (s:Æ) (σ:St) (H:Hp) (Q:VK),Inv X pins σ H s->t σ H Q->Ô (Û X.prog X.w) X.A (eval e X.env) (EP X pins σ Q) X.xe s
def PT(X:Cx)(e:Ò)(t:TT):Prop :=
 ∀ (pins:List (È × Obj)) (s:Æ) (σ:St) (H:Hp) (Q:Bool->Hp->Prop),Inv X pins σ H s->t σ H Q->Ô (Û X.prog X.w) X.A (isTrue e X.env (eval e X.env)) (TP X pins σ Q) X.xe s
def PW(X:Cx)(e:Ò)(t:TT):Prop :=
 ∀ (whole:Sem Ã) (pins:List (È × Obj)) (s:Æ) (σ:St) (H:Hp) (Q:Bool->Hp->Prop),Inv X pins σ H s->t σ H Q->Ô (Û X.prog X.w) X.A (isTrue e X.env whole) (TP X pins σ Q) X.xe s
theorem PW.pt{X:Cx}{e:Ò}{t:TT}(h:PW X e t):PT X e t:=h _
def PA(X:Cx)(es:List Ò)(t:TA):Prop :=
 ∀ (pos:Pos) (pins:List (È × Obj)) (s:Æ) (σ:St) (H:Hp) (Q:List V->Hp->Prop),Inv X pins σ H s->t σ H Q->Ô (Û X.prog X.w) X.A (spliced (Ó9 pos (þ es X.env))) (AP X pins σ Q) X.xe s
def PS(X:Cx)(st:Ç9)(t:TS):Prop :=
 ∀ (pins:List (È × Obj)) (s:Æ) (σ:St) (H:Hp) (D:Ends),Inv X pins σ H s->t D σ H->Ô (Û X.prog X.w) X.A (exec st X.env) (SP X pins D) X.xe s
def PSs(X:Cx)(st:List Ç9)(t:TS):Prop :=
 ∀ (pins:List (È × Obj)) (s:Æ) (σ:St) (H:Hp) (D:Ends),Inv X pins σ H s->t D σ H->Ô (Û X.prog X.w) X.A (execs st X.env) (SP X pins D) X.xe s
theorem thn{α:Type}{t:Sem α}{Q Q':α->Æ->Prop}{M:Model}{A:ý}{E:Ã->Æ->Prop}{s:Æ}(h:Ô M A t Q E s)(hQ:∀ a s,Q a s->Q' a s):Ô M A t Q' E s:=Å2 h hQ λ_ _ x=>x
section
variable {X:Cx}
def r02(i:Nat):TE:=λσ H Q=>∃ v,σ[i]?=some (some v)/\Q v H
def tC(v:V):TE:=λ_ H Q=>Q v H
theorem w90{i:Nat}{x:Str}{pos:Pos}(hN:X.N[i]?=some x)(hv:Vis X.env.scope x)(hd:(x == ("__debug__":Str))=false:=by decide)(hcd:(x == ("__classdict__":Str))=false:=by decide):PE X (.Name x pos) (r02 i):=by
 intro pins s σ H Q I h;obtain⟨v,e,h⟩:=h;obtain⟨m,hn,hl⟩:=I.loc;obtain⟨u,r,l⟩:=hl i x v hN e hv;have fin:EP X pins σ Q u s:=⟨v,H,I,r,h⟩;rcases l with ⟨hk,hm⟩ | ⟨hk,c,hc,hcell⟩
 ·exact wpAny_Name (Ö4 I.ok.kind hk hn hm fin) hd
 ·rcases hk with hk | hk
  ·exact wpAny_Name (wpAny_loadName_cell I.ok.kind hk hc hcell fin) hd
  ·exact wpAny_Name (wpAny_loadName_free I.ok.kind hk hc hcell fin hcd) hd
theorem u91{i j pos}:PE X (.Constant (.int i) j pos) (tC (.int i)):=λ_ _ _ H _ I h=>wpAny_Constant_int ⟨.int i,H,I.tok _,⟨_,rfl⟩,h⟩
theorem H02{b j pos}:PE X (.Constant (.bool b) j pos) (tC (.bl b)):=λ_ _ _ H _ I h=>Constant_bool ⟨.bl b,H,I,rfl,h⟩
theorem r12{j pos}:PE X (.Constant .none j pos) (tC .non):=λ_ _ _ H _ I h=>Constant_none ⟨.non,H,I,rfl,h⟩
theorem V41{x j pos}:PE X (.Constant (.str x) j pos) (tC (.str x)):=λ_ _ _ H _ I h=>Calls.Constant_str ⟨.str x,H,I.tok _,⟨_,rfl⟩,h⟩
def Gl(X:Cx)(x:Str):Prop:=X.env.kindOf x=some .globalImplicit
theorem b61{E:Ã->Æ->Prop}{pins:List (È × Obj)}{s:Æ}{σ:St}{H:Hp}{x:Str}{u:Ã}{pos:Pos}{Q:Ã->Æ->Prop}(I:Inv X pins σ H s)(hg:Gl X x)(hm:X.mg x=some u)(h:Q u s)
  (hd:(x == ("__debug__":Str))=false:=by decide):Ô (Û X.prog X.w) X.A (eval (.Name x pos) X.env) Q E s :=
 Ü0 I.ok.kind hg (Calls.loadGlobal_global (by rw[I.ok.glob];exact I.mod.glob.keeps I.bk) hm h) hd
theorem x00{E:Ã->Æ->Prop}{pins:List (È × Obj)}{s:Æ}{σ:St}{H:Hp}{x:Str}{u:Ã}{pos:Pos}{Q:Ã->Æ->Prop}(I:Inv X pins σ H s)(hg:Gl X x)(hm:X.mg x=none)(hv:î x=some u)(h:Q u s)
  (hn:x≠"__name__":=by decide) (hd:(x == ("__debug__":Str))=false:=by decide):Ô (Û X.prog X.w) X.A (eval (.Name x pos) X.env) Q E s:=by
 obtain⟨mb,h1,h2⟩:=I.mod.blt;exact Ü0 I.ok.kind hg (Calls.loadGlobal_builtin (by rw[I.ok.glob];exact I.mod.glob.keeps I.bk) hm (by rw[I.ok.blt];exact h1.keeps I.bk) ((h2 x hn).trans hv) h) hd
theorem b32{x:Str}{v:V}{u:Ã}{pos:Pos}(hg:Gl X x)(hm:X.mg x=some u)(r:RelV v u)(hd:(x == ("__debug__":Str))=false:=by decide):PE X (.Name x pos) (tC v) :=
 λ_ _ _ H _ I h=>b61 I hg hm ⟨v,H,I,r,h⟩ hd
theorem b71{x:Str}{v:V}{u:Ã}{pos:Pos}(hg:Gl X x)(hm:X.mg x=none)(hv:î x=some u)(r:RelV v u)(hn:x≠"__name__":=by decide)(hd:(x == ("__debug__":Str))=false:=by decide):PE X (.Name x pos) (tC v) :=
 λ_ _ _ H _ I h=>x00 I hg hm hv ⟨v,H,I,r,h⟩ hn hd
variable {a b:Ò}{ta tb:TE}{pos:Pos}
def tB(t:TE):TT:=λσ H Q=>t σ H λx H1=>∃ c,x=.bl c/\Q c H1
theorem r22{e:Ò}{t:TE}(h:PE X e t)(he:∀ whole,isTrue e X.env whole=(do let v ← whole;standAt e.pos;holding [v] (truthy v)):=by intro _;rfl):PT X e (tB t):=by
 intro pins s σ H Q I hw;refine isTrue_plain (thn (h pins s σ H _ I hw) λv s1 ⟨x,H1,I1,r1,q1⟩=>?_) (he _);obtain⟨d,rfl,q⟩:=q1;cases r1;exact À8 ⟨H1,I1,q⟩
variable {tA tB':TT}{rest:List Ò}
def U32(t u:TT):TT:=λσ H Q=>t σ H λc H1=>if c=true then u σ H1 Q else Q false H1
def tOr(t u:TT):TT:=λσ H Q=>t σ H λc H1=>if c=true then Q true H1 else u σ H1 Q
def U42(t:TT):TT:=λσ H Q=>t σ H λc H1=>Q (!c) H1
theorem b42(ha:PT X a tA):PW X (.BoolOp .And [a] pos) tA:=by
 intro wh pins s σ H Q I h;refine isTrue_and (thn (ha pins s σ H Q I h) λc s1 e=>?_);cases c with
 |true=>exact isTrue_and_nil e|false=>exact e
theorem r32(ha:PT X a tA):PW X (.BoolOp .Or [a] pos) tA:=by
 intro wh pins s σ H Q I h;refine isTrue_or (thn (ha pins s σ H Q I h) λc s1 e=>?_);cases c with
 |false=>exact isTrue_or_nil e|true=>exact e
theorem r42(ha:PT X a tA)(hb:PW X (.BoolOp .And (b::rest) pos) tB'):PW X (.BoolOp .And (a::b::rest) pos) (U32 tA tB'):=by
 intro wh pins s σ H Q I h;refine isTrue_and (thn (ha pins s σ H _ I h) λc s1 ⟨H1,I1,q1⟩=>?_);cases c with
 |true=>exact hb wh pins s1 σ H1 Q I1 q1|false=>exact⟨H1,I1,q1⟩
theorem H12(ha:PT X a tA)(hb:PW X (.BoolOp .Or (b::rest) pos) tB'):PW X (.BoolOp .Or (a::b::rest) pos) (tOr tA tB'):=by
 intro wh pins s σ H Q I h;refine isTrue_or (thn (ha pins s σ H _ I h) λc s1 ⟨H1,I1,q1⟩=>?_);cases c with
 |true=>exact⟨H1,I1,q1⟩|false=>exact hb wh pins s1 σ H1 Q I1 q1
theorem r52(ha:PT X a tA):PT X (.UnaryOp .Not a pos) (U42 tA):=by
 intro pins s σ H Q I h;exact isTrue_not (ha pins s σ H (λc H1=>Q (!c) H1) I h)
def H22(ta tb:TE):TE:=λσ H Q=>ta σ H λx H1=>∃ c,x=.bl c/\if c=true then tb σ H1 Q else Q (.bl false) H1
def U52(ta tb:TE):TE:=λσ H Q=>ta σ H λx H1=>∃ c,x=.bl c/\if c=true then Q (.bl true) H1 else tb σ H1 Q
def H32(ta:TE):TE:=λσ H Q=>ta σ H λx H1=>∃ c,x=.bl c/\Q (.bl (!c)) H1
theorem r62{op}{t:TE}(h:PE X a t):PE X (.BoolOp op [a] pos) t:=λpins s σ H Q I hw=>BoolOp_one (h pins s σ H Q I hw)
theorem r72(ha:PE X a ta)(hb:PE X (.BoolOp .And (b::rest) pos) tb):PE X (.BoolOp .And (a::b::rest) pos) (H22 ta tb):=by
 intro pins s σ H Q I h;refine BoolOp_and (thn (ha pins s σ H _ I h) λv s1 ⟨x,H1,I1,r1,q1⟩=>?_);obtain⟨c,rfl,q1⟩:=q1;cases r1;refine À8 ?_;cases c with
 |true=>exact hb pins s1 σ H1 Q I1 q1|false=>exact⟨.bl false,H1,I1,rfl,q1⟩
theorem H42(ha:PE X a ta)(hb:PE X (.BoolOp .Or (b::rest) pos) tb):PE X (.BoolOp .Or (a::b::rest) pos) (U52 ta tb):=by
 intro pins s σ H Q I h;refine BoolOp_or (thn (ha pins s σ H _ I h) λv s1 ⟨x,H1,I1,r1,q1⟩=>?_);obtain⟨c,rfl,q1⟩:=q1;cases r1;refine À8 ?_;cases c with
 |false=>exact hb pins s1 σ H1 Q I1 q1|true=>exact⟨.bl true,H1,I1,rfl,q1⟩
theorem r82(ha:PE X a ta):PE X (.UnaryOp .Not a pos) (H32 ta):=by
 intro pins s σ H Q I h;refine UnaryOp_ (thn (ha pins s σ H _ I h) λv s1 ⟨x,H1,I1,r1,q1⟩=>?_);obtain⟨c,rfl,q1⟩:=q1;cases r1;exact not_of (À8 ⟨.bl (!c),H1,I1,rfl,q1⟩)
def tIf(t:TT)(ta tb:TE):TE:=λσ H Q=>t σ H λc H1=>if c=true then ta σ H1 Q else tb σ H1 Q
theorem L21{c:Ò}(hc:PT X c tA)(ha:PE X a ta)(hb:PE X b tb):PE X (.IfExp c a b pos) (tIf tA ta tb):=by
 intro pins s σ H Q I h;refine wpAny_IfExp (thn (hc pins s σ H _ I h) λd s1 ⟨H1,I1,q1⟩=>?_);cases d with
 |true=>exact ha pins s1 σ H1 Q I1 q1|false=>exact hb pins s1 σ H1 Q I1 q1
end
def SqL(K:Â)(H:Hp)(a:È)(xs:List V):Prop :=
 Rd H a (.lst xs) ∨
  ∃ (o:Obj) (its:Array Ã) (n:Nat),K.lookup a=some o/\o.cls=.type "list"/\o.dict=none/\o.data=.seq its n/\its.size<=sizeLine/\Vals xs its.toList
def SqT(K:Â)(H:Hp)(a:È)(xs:List V):Prop :=
 Rd H a (.tup xs) ∨
  ∃ (o:Obj) (its:Array Ã) (n:Nat),K.lookup a=some o/\o.cls=.type "tuple"/\o.data=.seq its n/\its.size<=sizeLine/\Vals xs its.toList
def U62:Ã->Option V
 |.none=>some .non|.bool b=>some (.bl b)|.int i _=>some (.int i)|.str x _=>some (.str x)|.bytes b _=>some (.byt b)|.float b _=>some (.flt b)|.ref a=>some (.ref a)|.type n=>some (.ty n)|_=>none
theorem RelV.abs{x:V}{u:Ã}(r:RelV x u):U62 u=some x:=by
 cases x with
 |non=>cases r;rfl
 |bl _=>cases r;rfl
 |int _=>obtain⟨t,rfl⟩:=r;rfl
 |str _=>obtain⟨t,rfl⟩:=r;rfl
 |byt _=>obtain⟨t,rfl⟩:=r;rfl
 |flt _=>obtain⟨t,rfl⟩:=r;rfl
 |ref _=>cases r;rfl
 |ty _=>cases r;rfl
theorem RelV.inj{x y:V}{u:Ã}(r:RelV x u)(q:RelV y u):x=y:=Á5 (r.abs.symm.trans q.abs)
theorem Vals.inj:∀ {xs ys:List V}{us:List Ã},Vals xs us->Vals ys us->xs=ys
 |_,_,_,.nil,.nil=>rfl|_,_,_,.cons r t,.cons r' t'=>by rw[r.inj r',Vals.inj t t']
section
variable {X:Cx}{pins:List (È × Obj)}{σ:St}{H:Hp}{s:Æ}{a:È}{xs ys:List V}
theorem SqL.of{K:Â}(h:H a=some (.lst xs)):SqL K H a xs:=.inl (.inl h)
theorem SqT.of{K:Â}(h:H a=some (.tup xs)):SqT K H a xs:=.inl (.inl h)
theorem Inv.list(I:Inv X pins σ H s)(h:SqL X.K H a xs):∃ its:List Ã,Vals xs its/\PlainL s.heap a its.toArray/\xs.length<=sizeLine:=by
 rcases h with h | ⟨o,its,n,hk,hc,hd,hs,hz,r⟩
 ·obtain⟨z,its,n,r,e⟩:=h.ok I.hok;exact⟨its,r,⟨_,n,e,rfl,rfl,rfl⟩,z⟩
 ·refine⟨its.toList,r,⟨o,n,I.kIn a o hk,hc,hd,by simpa using hs⟩,?_⟩
  have e:=r.length;simp only[Ê1] at e;omega
theorem Inv.tuple(I:Inv X pins σ H s)(h:SqT X.K H a xs):∃ its:List Ã,Vals xs its/\Ï1 s.heap a its.toArray/\xs.length<=sizeLine:=by
 rcases h with h | ⟨o,its,n,hk,hc,hs,hz,r⟩
 ·obtain⟨z,its,r,p⟩:=h.ok I.hok;exact⟨its,r,p,z⟩
 ·refine⟨its.toList,r,⟨o,I.kIn a o hk,hc,n,by simpa using hs⟩,?_⟩
  have e:=r.length;simp only[Ê1] at e;omega
theorem Inv.i01(I:Inv X pins σ H s)(h:SqL X.K H a xs)(h':SqL X.K H a ys):xs=ys:=by
 obtain⟨its,r,⟨o,n,e,_,_,d⟩,_⟩:=I.list h;obtain⟨its',r',⟨o',n',e',_,_,d'⟩,_⟩:=I.list h';rw[e] at e';cases e';rw[d] at d';injection d' with d1 _;have:its=its':=by simpa using congrArg toList d1
 subst this;exact r.inj r'
theorem Inv.U30(I:Inv X pins σ H s)(h:SqT X.K H a xs)(h':SqT X.K H a ys):xs=ys:=by
 obtain⟨its,r,⟨o,e,_,n,d⟩,_⟩:=I.tuple h;obtain⟨its',r',⟨o',e',_,n',d'⟩,_⟩:=I.tuple h';rw[e] at e';cases e';rw[d] at d';injection d' with d1 _;have:its=its':=by simpa using congrArg toList d1
 subst this;exact r.inj r'
end
section
variable {X:Cx}{st:Ç9}{rest:List Ç9}{t u:TS}{e:Ò}{te:TE}{pos:Pos}
def H52:TS:=λD σ H=>D.nx σ H
def U72(t u:TS):TS:=λD σ H=>t { D with nx:=u D } σ H
theorem b52:PSs X [] H52:=λ_ _ σ H _ I h=>Ý4 ⟨σ,H,I,h⟩
theorem L31(h1:PS X st t)(h2:PSs X rest u):PSs X (st::rest) (U72 t u):=by
 intro pins s σ H D I h;refine wpAny_execs_cons (thn (h1 pins s σ H { D with nx:=u D } I h) λf s1 q=>?_);cases f with
 |next =>
  obtain⟨σ',H',I',q⟩:=q;exact h2 pins s1 σ' H' D I' q
 |ret v=>exact q|brk=>exact q|cont=>exact q
theorem Inv.quiet{pins:List (È × Obj)}{σ:St}{H:Hp}{s:Æ}(I:Inv X pins σ H s):interactive X.env=false:=by simp[interactive,I.ok.kind]
def r92(te:TE):TS:=λD σ H=>te σ H λ_ H1=>D.nx σ H1
theorem b81(he:PE X e te)(hs:Ï7 e none pos.line X.env=pure false:=by rfl):PS X (.Expr e pos) (r92 te):=by
 intro pins s σ H D I h;exact wpAny_Expr_any (thn (he pins s σ H _ I h) λv s1 ⟨x,H1,I1,r1,q1⟩=>⟨σ,H1,I1,q1⟩) I.quiet hs
def U82(te:TE):TS:=λD σ H=>te σ H D.rt
theorem V51(he:PE X e te):PS X (.Return (some e) pos) (U82 te):=by
 intro pins s σ H D I h;exact wpAny_Return_some (thn (he pins s σ H _ I h) λv s1 ⟨x,H1,I1,r1,q1⟩=>⟨x,σ,H1,I1,r1,q1⟩)
def H62:TS:=λD _ H=>D.rt .non H
theorem b62:PS X (.Return none pos) H62:=λ_ _ σ H _ I h=>wpAny_Return_none ⟨.non,σ,H,I,rfl,h⟩
def U92(c:TT)(t u:TS):TS:=λD σ H=>c σ H λb H1=>if b=true then t D σ H1 else u D σ H1
theorem H72{c:Ò}{a b:List Ç9}{tc:TT}(hc:PT X c tc)(ha:PSs X a t)(hb:PSs X b u):PS X (.If c a b pos) (U92 tc t u):=by
 intro pins s σ H D I h;refine wpAny_If (thn (hc pins s σ H _ I h) λd s1 ⟨H1,I1,q1⟩=>?_);cases d with
 |true=>exact ha pins s1 σ H1 D I1 q1|false=>exact hb pins s1 σ H1 D I1 q1
end
abbrev TG:=V->St->Hp->(St->Hp->Prop)->Prop
abbrev TGs:=List V->St->Hp->(St->Hp->Prop)->Prop
def PG(X:Cx)(target:Ò)(t:TG):Prop :=
 ∀ (pins:List (È × Obj)) (s:Æ) (σ:St) (H:Hp) (v:V) (u:Ã) (Q:St->Hp->Prop),Inv X pins σ H s->RelV v u->t v σ H Q ->
  Ô (Û X.prog X.w) X.A (Ö7 target X.env u) (λ_ s'=>∃ σ' H',Inv X pins σ' H' s'/\Q σ' H') X.xe s
def PGs(X:Cx)(ts:List Ò)(t:TGs):Prop :=
 ∀ (pins:List (È × Obj)) (s:Æ) (σ:St) (H:Hp) (vs:List V) (us:List Ã) (Q:St->Hp->Prop),Inv X pins σ H s->Vals vs us->t vs σ H Q ->
  Ô (Û X.prog X.w) X.A (assignInOrder ((É7 ts X.env).map (·.2)) us) (λ_ s'=>∃ σ' H',Inv X pins σ' H' s'/\Q σ' H') X.xe s
abbrev F72:=V->V->V->Hp->(Hp->Prop)->Prop
def R42(X:Cx)(t:F72):Prop :=
 ∀ (pins:List (È × Obj)) (s:Æ) (σ:St) (H:Hp) (o i v:V) (ov iv u:Ã) (Q:Hp->Prop),Inv X pins σ H s->RelV o ov->RelV i iv->RelV v u->t o i v H Q ->
  Ô (Û X.prog X.w) X.A (setItem ov iv u) (λ_ s'=>∃ H',Inv X pins σ H' s'/\Q H') X.xe s
abbrev TIp:=V->V->Hp->VK->Prop
def PIp(X:Cx)(op:Ð6)(t:TIp):Prop :=
 ∀ (pins:List (È × Obj)) (s:Æ) (σ:St) (H:Hp) (x y:V) (v u:Ã) (Q:VK),Inv X pins σ H s->RelV x v->RelV y u->t x y H Q ->
  Ô (Û X.prog X.w) X.A (inplaceOp op v u) (EP X pins σ Q) X.xe s
section
variable {X:Cx}{pos:Pos}
def q01(i:Nat):TG:=λv σ H Q=>Q (σ.set i (some v)) H
theorem b72{i:Nat}{x:Str}(hN:X.N.Nodup)(hi:X.N[i]?=some x)(hx:Loc X.env.scope x)(hf:X.fn x=true∨X.env.scope.names.lookup x=some .local:=by first | exact .inl rfl | exact .inr rfl | assumption):PG X (.Name x pos) (q01 i):=by
 intro pins s σ H v u Q I r h;exact Û2 (w80 I hN hi hx r (λs' I'=>⟨_,H,I',h⟩) hf)
def R52:TGs:=λvs σ H Q=>vs=[]/\Q σ H
def s02(t:TG)(u:TGs):TGs:=λvs σ H Q=>∃ v r,vs=v::r/\t v σ H λσ' H'=>u r σ' H' Q
theorem b82:PGs X [] R52:=by
 intro pins s σ H vs us Q I r h;obtain⟨e,h⟩:=h;subst e;cases r;exact assignInOrder_nil ⟨σ,H,I,h⟩
theorem L41{e:Ò}{es:List Ò}{t:TG}{u:TGs}(h1:PG X e t)(h2:PGs X es u)
  (hs:(É7 (e::es) X.env).map (·.2)=Ö7 e X.env::(É7 es X.env).map (·.2):=by rfl):PGs X (e::es) (s02 t u):=by
 intro pins s σ H vs us Q I r h;obtain⟨v,vr,e1,h⟩:=h;subst e1;cases r with
 |cons r rr =>
  rw[hs];refine Ú0 (thn (h1 pins s σ H _ _ _ I r h) λ_ s1 ⟨σ1,H1,I1,q1⟩=>?_);exact h2 pins s1 σ1 H1 _ _ Q I1 rr q1
def R62(K:Â)(n:Nat)(t:TGs):TG:=λv σ H Q=>∃ a xs,v=.ref a/\SqT K H a xs/\xs.length=n/\t xs σ H Q
theorem s12{es:List Ò}{k:Nat}{t:TGs}{n:Nat}(hc:X.calm=true)(h:PGs X es t)
  (hn:(É7 es X.env).length=n:=by rfl) (hst:(É7 es X.env).findIdx? (·.1)=none:=by rfl):PG X (.Tuple es k pos) (R62 X.K n t):=by
 intro pins s σ H v u Q I r hw;obtain⟨a,xs,e1,hq,hl,hw⟩:=hw;subst e1;cases r;obtain⟨its,rv,ht,hz⟩:=I.tuple hq;refine assign_Tuple_tuple (I.ok.hd hc) ht (by simp[hn,← hl,rv.length]) hst λh' hx=>?_
 have I1:Inv X pins σ H { s with heap:=h' }:=I.kept (t':=s.toks) λb o e=>hx b o (ß (å e)) e;exact h pins _ σ H xs _ Q I1 (by simpa using rv) hw
def V02(to ti:TE)(t:F72):TG:=λv σ H Q=>to σ H λo H1=>ti σ H1 λi H2=>t o i v H2 λH3=>Q σ H3
theorem s22{o i:Ò}{to ti:TE}{t:F72}(ho:PE X o to)(hi:PE X i ti)(hs:R42 X t)
  (ha:∀ v,Ö7 (.Subscript o i pos) X.env v=(do
   let ov ← holding [v] (eval o X.env)
   let iv ← holding [v,ov] (eval i X.env)
   standAt pos
   holding [v,ov,iv] (setItem ov iv v)
   release [v,ov,iv] []):=by intro _;rfl):PG X (.Subscript o i pos) (V02 to ti t):=by
 intro pins s σ H v u Q I r h;rw[ha];refine Á (Ê8 (thn (ho pins s σ H _ I h) λov s1 ⟨x,H1,I1,r1,q1⟩=>?_));refine Á (Ê8 (thn (hi pins s1 σ H1 _ I1 q1) λiv s2 ⟨y,H2,I2,r2,q2⟩=>?_));refine Á (Ù3 (Á (Ê8 (thn (hs pins s2 σ H2 x y v ov iv u _ I2 r1 r2 r q2) λ_ s3 ⟨H3,I3,q3⟩=>?_))));exact wpAny_release ⟨σ,H3,I3,q3⟩
def s32(te:TE)(g:TG):TS:=λD σ H=>te σ H λx H1=>g x σ H1 D.nx
theorem V61{tg e:Ò}{te:TE}{g:TG}(he:PE X e te)(hg:PG X tg g)(hs:swapsWithSole [tg] e pos.line X.env=pure false:=by rfl)(hw:Ä6 [tg] e X.env=pure none:=by rfl)
  (h1:(É7 [tg] X.env).map (·.2)=[Ö7 tg X.env]:=by rfl):PS X (.Assign [tg] e pos) (s32 te g):=by
 intro pins s σ H D I h;refine wpAny_Assign_stores (thn (he pins s σ H _ I h) λv s1 ⟨x,H1,I1,r1,q1⟩=>?_) hs hw;rw[h1];exact thn (hg pins s1 σ H1 x v _ I1 r1 q1) λ_ s2 q=>q
theorem i11{i:Nat}{x:Str}{e:Ò}{te:TE}{pos':Pos}(hN:X.N.Nodup)(hi:X.N[i]?=some x)(hx:Loc X.env.scope x)(he:PE X e te)(hs:Ï7 e (some (.Name x pos')) pos.line X.env=pure false:=by rfl)(hf:X.fn x=true∨X.env.scope.names.lookup x=some .local:=by first | exact .inl rfl | exact .inr rfl | assumption) :
  PS X (.Assign [.Name x pos'] e pos) (s32 te (q01 i)):=by
 intro pins s σ H D I h;refine wpAny_Assign_Name (thn (he pins s σ H _ I h) λv s1 ⟨y,H1,I1,r1,q1⟩=>?_) hs;exact w80 I1 hN hi hx r1 (λs2 I2=>⟨_,H1,I2,q1⟩) hf
def V12(i j:Nat)(ta:TA):TS:=λD σ H=>ta σ H λvs H1=>∃ v w,vs=[v,w]/\D.nx ((σ.set i (some v)).set j (some w)) H1
theorem s42{i j:Nat}{x y:Str}{a b:Ò}{ta:TA}{px py pt:Pos}{kt k2 pt2}(hc:X.calm=true)(hN:X.N.Nodup)(hi:X.N[i]?=some x)(hj:X.N[j]?=some y)(hij:i≠j)
  (hx:X.env.scope.names.lookup x=some .local) (hy:X.env.scope.names.lookup y=some .local) (ha:PA X [a,b] ta)
  (hw:Ä6 [.Tuple [.Name x px,.Name y py] kt pt] (.Tuple [a,b] k2 pt2) X.env=pure (some [x,y]))
  (hs:swapsWithSole [.Tuple [.Name x px,.Name y py] kt pt] (.Tuple [a,b] k2 pt2) pos.line X.env=pure false:=by rfl) :
  PS X (.Assign [.Tuple [.Name x px,.Name y py] kt pt] (.Tuple [a,b] k2 pt2) pos) (V12 i j ta):=by
 intro pins s σ H D I h;rw[exec_Assign_arm];refine Á (Ù3 ?_);rw[hs];refine Á (Î ?_);rw[if_neg (-0)]
 refine Á (Tuple_ (thn (ha _ pins s σ H _ I h) λus s1 ⟨vs,H1,I1,r1,q1⟩=>?_));obtain⟨v,w,e1,q1⟩:=q1;subst e1;obtain⟨u1,u2,rfl,rv,rw'⟩:∃ u1 u2,us=[u1,u2]/\RelV v u1/\RelV w u2:=by
  cases r1 with
  |cons p q =>
   cases q with
   |cons p' q' =>
    cases q';exact⟨_,_,rfl,p,p'⟩
 refine À2 ?_ (by show 2<=sizeLine;decide)
 have I2:Inv X pins σ H1 { s1 with heap:=s1.heap.push { cls:=.type "tuple",data:=.seq [u1,u2].toArray } }:=I1.kept (t':=s1.toks) λb o e=>Ä _ e;rw[hw];refine Á (Î ?_);show Ô (Û X.prog X.w) X.A (do rule "assign.swapped-stores";let items ← unpackItems (.ref s1.heap.objs.size) 2 none;assignInOrder [λv=>bindName X.env y v,λv=>bindName X.env x v] items.reverse;pure Flow.next) _ _ _;refine Á (Ï8 (Á (unpackItems_tuple (items:=#[u1,u2]) (I.ok.hd hc) (Ï1.new s1.heap _) λh' hx'=>?_)));have I3:=I2.kept (h':=h') (t':=s1.toks) λb o e=>hx' b o (ß (å e)) e;show Ô _ _ (assignInOrder [λv=>bindName X.env y v,λv=>bindName X.env x v] [u2,u1] >>= λ_=>pure Flow.next) _ _ _;refine Á (Ú0 (wpAny_bindName (w80 I3 hN hj (.inl hy) rw' (λs2 I4=>?_) (.inr hy))));refine Ú0 (wpAny_bindName (w80 I4 hN hi (.inl hx) rv (λs3 I5=>assignInOrder_nil (Î ?_)) (.inr hx)));rw[List.set_comm _ _ (Â4 hij)] at I5;exact⟨_,H1,I5,q1⟩
def V22(i:Nat)(te:TE)(ti:TIp):TS:=λD σ H=>∃ x,σ[i]?=some (some x)/\te σ H λy H1=>ti x y H1 λz H2=>D.nx (σ.set i (some z)) H2
theorem s52{i:Nat}{x:Str}{e:Ò}{te:TE}{op:Ð6}{ti:TIp}{pos':Pos}(hN:X.N.Nodup)(hi:X.N[i]?=some x)(hx:Loc X.env.scope x)(he:PE X e te)(ho:PIp X op ti)(hf:X.fn x=true∨X.env.scope.names.lookup x=some .local:=by first | exact .inl rfl | exact .inr rfl | assumption) :
  PS X (.AugAssign (.Name x pos') op e pos) (V22 i te ti):=by
 intro pins s σ H D I h;obtain⟨v,e1,h⟩:=h;obtain⟨m,hn,hl⟩:=I.loc;have vis:Vis X.env.scope x:=by rcases hx with k | k;exact .inl k;exact .inr (.inl k)
 obtain⟨u,r,l⟩:=hl i x v hi e1 vis;refine wpAny_AugAssign_Name ?_;have go:Ô (Û X.prog X.w) X.A (eval e X.env) (λw s₂=>Ô (Û X.prog X.w) X.A (inplaceOp op u w) (λr s₃=>Ô (Û X.prog X.w) X.A (storeName X.env x r) (λ_=>SP X pins D .next) X.xe s₃) X.xe s₂) X.xe s:=by
  refine thn (he pins s σ H _ I h) λw s1 ⟨y,H1,I1,r1,q1⟩=>?_;refine thn (ho pins s1 σ H1 v y u w _ I1 r r1 q1) λz s2 ⟨zv,H2,I2,r2,q2⟩=>?_;exact w80 I2 hN hi hx r2 (λs3 I3=>⟨_,H2,I3,q2⟩) hf
 rcases l with ⟨hk,hm⟩ | ⟨hk,c,hc,hcell⟩
 ·exact Ö4 I.ok.kind hk hn hm go
 ·rcases hk with hk | hk
  ·exact wpAny_loadName_cell I.ok.kind hk hc hcell go
  ·rcases hx with k | k
   ·have:X.env.scope.names.lookup x=some .free:=hk;rw[k] at this;cases this
   ·have:X.env.scope.names.lookup x=some .free:=hk;rw[k] at this;cases this
def V32(to ti te:TE)(tget:V->V->Hp->VK->Prop)(tip:TIp)(tset:F72):TS:=λD σ H=>to σ H λo H1=>ti σ H1 λi H2=>tget o i H2 λx H3=>te σ H3 λy H4=>tip x y H4 λz H5=>tset o i z H5 λH6=>D.nx σ H6
def c03(X:Cx)(t:V->V->Hp->VK->Prop):Prop :=
 ∀ (pins:List (È × Obj)) (s:Æ) (σ:St) (H:Hp) (o i:V) (ov iv:Ã) (Q:VK),Inv X pins σ H s->RelV o ov->RelV i iv->t o i H Q ->
  Ô (Û X.prog X.w) X.A (Ø4 ov iv) (EP X pins σ Q) X.xe s
def ipI(f:Int->Int->Int):TIp:=λx y H Q=>∃ i j,x=.int i/\y=.int j/\Q (.int (f i j)) H
def s62(c:TT)(tb:TS):TS:=λD σ H=>∃ W:Nat->St->Hp->Prop,(∃ m,W m σ H)/\∀ m σ H,W m σ H ->
 c σ H λb H1=>if b=true then ∃ N:St->Hp->Prop,(∀ σ' H',N σ' H'->∃ m',m' < m/\W m' σ' H')/\tb { D with nx:=N,ct:=N,bk:=D.nx } σ H1 else D.nx σ H1
theorem L51{c:Ò}{body:List Ç9}{tc:TT}{tb:TS}(hp:PassesOwn (Û X.prog X.w) X.A X.env X.xe)(hc:PT X c tc)(hb:PSs X body tb):PS X (.While c body [] pos) (s62 tc tb):=by
 intro pins s σ H D I h;obtain⟨W,⟨m0,w0⟩,turn⟩:=h;refine wpAny_While (codeAny_whileLoop (λn s'=>∃ σ' H',Inv X pins σ' H' s'/\W n σ' H') ?_ m0 ⟨σ,H,I,w0⟩);rintro n s1 ⟨σ1,H1,I1,w1⟩;refine È6 hp (thn (hc pins s1 σ1 H1 _ I1 (turn n σ1 H1 w1)) λb s2 ⟨H2,I2,q2⟩=>?_);cases b with
 |true =>
  obtain⟨N,hN,q2⟩:=q2;rw[if_pos rfl];refine È6 hp (thn (hb pins s2 σ1 H2 _ I2 q2) λf s3 q3=>?_);cases f with
  |next =>
   obtain⟨σ3,H3,I3,n3⟩:=q3;obtain⟨m',hm,w3⟩:=hN σ3 H3 n3;exact⟨m',hm,σ3,H3,I3,w3⟩
  |cont =>
   obtain⟨σ3,H3,I3,n3⟩:=q3;obtain⟨m',hm,w3⟩:=hN σ3 H3 n3;exact⟨m',hm,σ3,H3,I3,w3⟩
  |brk=>exact q3|ret v=>exact q3
 |false =>
  rw[if_neg Í];exact Ý4 ⟨σ1,H2,I2,q2⟩
end
structure It where
 go:Nat->Hp->Prop
 yld:Nat->Hp->V->Hp->Prop
 stop:Nat->Hp->Prop
def i21(X:Cx)(pins:List (È × Obj))(H:Hp)(b:È):Prop :=
 H b=none/\b≠X.env.locals/\b ∉ X.fs/\(b∈X.ex∨X.s₀.heap.objs.size<=b)/\(∀ x c,X.env.cells.lookup x=some c->c≠b)/\∀ p∈X.pn++pins,p.1≠b
theorem Inv.u31{X:Cx}{pins:List (È × Obj)}{σ:St}{H H':Hp}{s:Æ}{b:È}(I:Inv X pins σ H s)(hb:s.heap.objs.size<=b)(hn:H' b=none):i21 X pins H' b:=by
 refine⟨hn,ne_of_gt (Ý I.lt hb),I.U22 hb,.inr (Ù I.sz hb),λx c e z=>?_,λp hp z=>?_⟩
 ·obtain⟨v,q⟩:=I.cell x c e;exact absurd (Ý q.lt (by rw[z];exact hb)) (À1 _)
 ·exact absurd (Ý (å (I.pin p hp).1) (by rw[z];exact hb)) (À1 _)
structure Turn(P:Program)(w:World)(K:PySem.W.Frag)(tg:Expr)(J:It)(fp:List Addr)(it:Addr)(tn:Nat->Heap->Prop):Prop where
 mem:it∈fp
 obj:∀ i h,tn i h->∀ b∈fp,∃ o,h.get? b=some o/\∀ v,o.data≠.cell v
 keep:∀ i h h',tn i h->(∀ b∈fp,∀ o,h.get? b=some o->h'.get? b=some o)->tn i h'
 item:∀ (X:Cx),X.prog=P->X.w=w->X.K=K->X.calm=true->∀ (i:Nat) (pins:List (Addr × Obj)) (s:Shared) (σ:St) (H:Hp) (E:Value->Shared->Prop),Inv X pins σ H s->(∀ b∈fp,i21 X pins H b)->tn i s.heap->J.go i H ->
  wpAny (model P w) X.A (pyNext (.ref it)) (λr s1=>∃ u,r=some u /\
   wpAny (model P w) X.A (letOwnedTupleGo tg (.ref it) u) (λ_ s2=>∃ x H',Inv X pins σ H' s2/\RelV x u/\J.yld i H x H'/\tn (i + 1) s2.heap/\∀ b∈fp,H' b=none) E s1) E s
 done:∀ (X:Cx),X.prog=P->X.w=w->X.K=K->X.calm=true->∀ (i:Nat) (pins:List (Addr × Obj)) (s:Shared) (σ:St) (H:Hp) (E:Value->Shared->Prop),Inv X pins σ H s->(∀ b∈fp,i21 X pins H b)->tn i s.heap->J.stop i H ->
  wpAny (model P w) X.A (pyNext (.ref it)) (λr s1=>r=none/\Inv X pins σ H s1) E s
 self:∀ (A:Around) (i:Nat) (s:Shared) (Q:Value->Shared->Prop) (E:Value->Shared->Prop),tn i s.heap->Q (.ref it) s->wpAny (model P w) A (pyIter (.ref it)) Q E s
abbrev TI:=St->Hp->(It->Hp->Prop)->Prop
def PIE(X:Cx)(pins:List (È × Obj))(σ:St)(tg:Ò)(R:It->Hp->Prop)(itv:Ã)(s2:Æ):Prop :=
 ∃ (it:È) (fp:List È) (tn:Nat->ò->Prop) (J:It) (H':Hp),itv=.ref it/\Inv X pins σ H' s2/\Turn X.prog X.w X.K tg J fp it tn/\tn 0 s2.heap/\(∀ b∈fp,i21 X pins H' b)/\R J H'
def PI(X:Cx)(tg iter:Ò)(wi:TI):Prop :=
 ∀ (pins:List (È × Obj)) (s:Æ) (σ:St) (H:Hp) (R:It->Hp->Prop),Inv X pins σ H s->wi σ H R ->
  Ô (Û X.prog X.w) X.A (eval iter X.env) (λv s1=>Ô (Û X.prog X.w) X.A (pyIter v) (PIE X pins σ tg R) X.xe s1) X.xe s
theorem b92{M:Model}{A:ý}{E:Ã->Æ->Prop}{s:Æ}{tg:Ò}{it:È}{u:Ã}{o:Obj}{n:String}{vs:Array Ã}{Q:Unit->Æ->Prop}(ho:s.heap.get? it=some o)(hc:o.cls=.type n)(hd:o.data=.fields vs)
  (hn:["enumerate","zip","dict_itemiterator","dict_reverseitemiterator","odict_iterator","itertools.zip_longest","itertools.pairwise"].contains n=false) (hQ:Q () s):Ô M A (Ý5 tg (.ref it) u) Q E s:=by
 unfold Ý5;cases tg <;> first
  |exact Î hQ
  |(cases u <;> first
    |exact Î hQ
    |(refine Á (wpAny_load ho ?_)
      rw[hc,hd];show Ô M A (if (["enumerate","zip","dict_itemiterator","dict_reverseitemiterator","odict_iterator","itertools.zip_longest","itertools.pairwise"].contains n&&vs[0]? == some (rawInt _))=true then _ else _) Q E s;rw[if_neg (by intro h;rw[hn,Å5] at h;cases h)]
      exact Î hQ))
def Itl(K:Â)(a:È):It :=
 ⟨λi H=>∃ xs x,SqL K H a xs/\xs[i]?=some x,λi H x H'=>H'=H/\∀ xs,SqL K H a xs->xs[i]?=some x,λi H=>∃ xs,SqL K H a xs/\xs.length<=i⟩
def Itt(K:Â)(a:È):It :=
 ⟨λi H=>∃ xs x,SqT K H a xs/\xs[i]?=some x,λi H x H'=>H'=H/\∀ xs,SqT K H a xs->xs[i]?=some x,λi H=>∃ xs,SqT K H a xs/\xs.length<=i⟩
def Itr(lo:Int)(n:Nat):It:=⟨λi _=>i < n,λi H x H'=>H'=H/\x=.int (lo + i),λi _=>n<=i⟩
theorem v01{P:ç}{w:ø}{K:Â}{tg:Ò}(a it:È):Turn P w K tg (Itl K a) [it] it (λi h=>h.IsListIter it a i) where
 mem:=by simp
 obj:=λi h st b hb=>by
  have e:b=it:=by simpa using hb
  subst e;obtain⟨o,e,c,d⟩:=st;exact⟨o,e,λv z=>by rw[d] at z;cases z⟩
 keep:=λi h h' st k=>st.at λo e=>k it (by simp) o e
 item:=by
  intro X hP hw hK hc i pins s σ H E I hf st hg;subst hP hw hK;obtain⟨xs,x,hq,hx⟩:=hg;obtain⟨its,rv,p,hz⟩:=I.list hq;obtain⟨u,hu,ru⟩:=rv.get hx;obtain⟨f0,f1,f2,f3,f4,f5⟩:=hf it (by simp)
  refine wpAny_pyNext_list_item st p.isList (x:=u) (by simpa using hu) λh' st' sb=>?_
  have I1:Inv X pins σ H { s with heap:=h' }:=I.turned (t':=s.toks) (λb o hb e=>(sb.2 b hb).trans e) f0 f1 f3 f4 f5;obtain⟨o,e,c,d⟩:=id st';exact⟨u,rfl,b92 (s:={ s with heap:=h' }) e c d (-0) ⟨x,H,I1,ru,⟨rfl,λys hy=>by rw[I.i01 hy hq];exact hx⟩,st',λb hb=>(hf b hb).1⟩⟩
 done:=by
  intro X hP hw hK hc i pins s σ H E I hf st hg;subst hP hw hK;obtain⟨xs,hq,hx⟩:=hg;obtain⟨its,rv,p,hz⟩:=I.list hq;obtain⟨f0,f1,f2,f3,f4,f5⟩:=hf it (by simp)
  have hl:=rv.length;exact wpAny_pyNext_list_end (I.ok.hd hc) st p.isList (by simp;omega) λh' eb=>⟨rfl,I.turned (t':=s.toks) (λb o hb e=>eb b o hb e) f0 f1 f3 f4 f5⟩
 self:=λ_ _ _ _ _ st h=>wpAny_pyIter_listiter st h
theorem q11{P:ç}{w:ø}{K:Â}{tg:Ò}(a it:È):Turn P w K tg (Itt K a) [it] it (λi h=>h.IsTupleIter it a i) where
 mem:=by simp
 obj:=λi h st b hb=>by
  have e:b=it:=by simpa using hb
  subst e;obtain⟨o,e,c,d⟩:=st;exact⟨o,e,λv z=>by rw[d] at z;cases z⟩
 keep:=λi h h' st k=>st.at λo e=>k it (by simp) o e
 item:=by
  intro X hP hw hK hc i pins s σ H E I hf st hg;subst hP hw hK;obtain⟨xs,x,hq,hx⟩:=hg;obtain⟨its,rv,p,hz⟩:=I.tuple hq;obtain⟨u,hu,ru⟩:=rv.get hx;obtain⟨f0,f1,f2,f3,f4,f5⟩:=hf it (by simp)
  refine wpAny_pyNext_tuple_item st (show s.heap.IsTuple a its.toArray from p) (x:=u) (by simpa using hu) λh' st' sb=>?_
  have I1:Inv X pins σ H { s with heap:=h' }:=I.turned (t':=s.toks) (λb o hb e=>(sb.2 b hb).trans e) f0 f1 f3 f4 f5;obtain⟨o,e,c,d⟩:=id st';exact⟨u,rfl,b92 (s:={ s with heap:=h' }) e c d (-0) ⟨x,H,I1,ru,⟨rfl,λys hy=>by rw[I.U30 hy hq];exact hx⟩,st',λb hb=>(hf b hb).1⟩⟩
 done:=by
  intro X hP hw hK hc i pins s σ H E I hf st hg;subst hP hw hK;obtain⟨xs,hq,hx⟩:=hg;obtain⟨its,rv,p,hz⟩:=I.tuple hq;obtain⟨f0,f1,f2,f3,f4,f5⟩:=hf it (by simp)
  have hl:=rv.length;exact wpAny_pyNext_tuple_end (I.ok.hd hc) st (show s.heap.IsTuple a its.toArray from p) (by simp;omega) λh' eb=>⟨rfl,I.turned (t':=s.toks) (λb o hb e=>eb b o hb e) f0 f1 f3 f4 f5⟩
 self:=λ_ _ _ _ _ st h=>wpAny_pyIter_tupleiter st h
theorem q21{P:ç}{w:ø}{K:Â}{tg:Ò}(it:È)(lo:Int)(n:Nat):Turn P w K tg (Itr lo n) [it] it (λi h=>IsRangeIter h it (lo + (i:Nat) * 1) ((n:Int) - (i:Nat)) 1) where
 mem:=by simp
 obj:=λi h st b hb=>by
  have e:b=it:=by simpa using hb
  subst e;exact⟨_,st,λv z=>by
   have z':Data.fields _=Data.cell v:=z;cases z'⟩
 keep:=λi h h' st k=>k it (by simp) _ st
 item:=by
  intro X hP hw hK hc i pins s σ H E I hf st hg;subst hP hw hK;obtain⟨f0,f1,f2,f3,f4,f5⟩:=hf it (by simp)
  have W:=Walks.range (prog:=X.prog) (w:=X.w) (I.ok.hd hc) it lo 1 n;refine W.item i s _ _ hg st λv h' tk hv st' kk=>?_;obtain⟨t,rfl⟩:=hv;have I1:Inv X pins σ H { s with heap:=h',toks:=tk }:=I.turned (λb o hb e=>kk b o (by simpa using hb) e) f0 f1 f3 f4 f5
  refine⟨_,rfl,b92 (s:={ s with heap:=h',toks:=tk }) (n:="range_iterator") st' rfl rfl (-0) ⟨.int (lo + i),H,I1,⟨t,?_⟩,⟨rfl,rfl⟩,st',λb hb=>(hf b hb).1⟩⟩
  rw[mul_one]
 done:=by
  intro X hP hw hK hc i pins s σ H E I hf st hg;subst hP hw hK;obtain⟨f0,f1,f2,f3,f4,f5⟩:=hf it (by simp)
  exact wpAny_pyNext_range_end (I.ok.hd hc) st (by have:n<=i:=hg;omega) λh' eb=>⟨rfl,I.turned (t':=s.toks) (λb o hb e=>eb b o hb e) f0 f1 f3 f4 f5⟩
 self:=λ_ _ _ _ _ st h=>wpAny_pyIter_rangeiter st h
section
variable {X:Cx}{tg:Ò}
def H82(K:Â)(tl:TE):TI:=λσ H R=>tl σ H λx H1=>∃ a,x=.ref a/\(∃ xs,SqL K H1 a xs)/\R (Itl K a) H1
def V42(K:Â)(tl:TE):TI:=λσ H R=>tl σ H λx H1=>∃ a,x=.ref a/\(∃ xs,SqT K H1 a xs)/\R (Itt K a) H1
theorem b91{l:Ò}{tl:TE}(hl:PE X l tl):PI X tg l (H82 X.K tl):=by
 intro pins s σ H R I h;refine thn (hl pins s σ H _ I h) λv s1 ⟨x,H1,I1,r1,q1⟩=>?_;obtain⟨a,e,⟨xs,hq⟩,q⟩:=q1;subst e;cases r1;obtain⟨its,rv,p,hz⟩:=I1.list hq;refine Ñ6 p.isList ?_;refine⟨s1.heap.objs.size,[s1.heap.objs.size],_,_,H1,rfl,I1.kept (t':=s1.toks) λb o e=>Ä _ e,v01 a _,⟨_,Ð _ rfl,rfl,rfl⟩,λb hb=>?_,q⟩;have e:b=s1.heap.objs.size:=by simpa using hb
 subst e;exact I1.u31 (Ê _) (I1.hok.fresh (Ê _))
theorem V71{l:Ò}{tl:TE}(hl:PE X l tl):PI X tg l (V42 X.K tl):=by
 intro pins s σ H R I h;refine thn (hl pins s σ H _ I h) λv s1 ⟨x,H1,I1,r1,q1⟩=>?_;obtain⟨a,e,⟨xs,hq⟩,q⟩:=q1;subst e;cases r1;obtain⟨its,rv,p,hz⟩:=I1.tuple hq;refine Ë5 (show s1.heap.IsTuple a its.toArray from p) ?_;refine⟨s1.heap.objs.size,[s1.heap.objs.size],_,_,H1,rfl,I1.kept (t':=s1.toks) λb o e=>Ä _ e,q11 a _,⟨_,Ð _ rfl,rfl,rfl⟩,λb hb=>?_,q⟩;have e:b=s1.heap.objs.size:=by simpa using hb
 subst e;exact I1.u31 (Ê _) (I1.hok.fresh (Ê _))
theorem i31{pins:List (È × Obj)}{σ:St}{H:Hp}{s:Æ}{R:It->Hp->Prop}{E:Ã->Æ->Prop}{lo hi:Int}{t u v:Tok}{tk:Nat}(I:Inv X pins σ H s)(h1:-(2 ^ 62)<=lo)(h2:lo < 2 ^ 62)(h3:-(2 ^ 62)<=hi)(h4:hi < 2 ^ 62)
  (q:R (Itr lo (hi - lo).toNat) H):Ô (Û X.prog X.w) X.A (pyIter (.ref s.heap.objs.size)) (PIE X pins σ tg R) E { s with heap:=s.heap.push { cls:=.type "range",data:=.fields #[.int lo t,.int hi u,.int 1 v] },toks:=tk }:=by
 refine wpAny_pyIter_range (Ô0.new ..) (small_one h1 h2 h3 h4) ?_;have I1:Inv X pins σ H { s with heap:=s.heap.push { cls:=.type "range",data:=.fields #[.int lo t,.int hi u,.int 1 v] },toks:=tk }:=I.kept λb o e=>Ä _ e;refine⟨(s.heap.push { cls:=.type "range",data:=.fields #[.int lo t,.int hi u,.int 1 v] }).objs.size,[(s.heap.push { cls:=.type "range",data:=.fields #[.int lo t,.int hi u,.int 1 v] }).objs.size],_,_,H,rfl,
  I1.kept (t':=tk) λb o e=>Ä _ e,q21 _ lo (hi - lo).toNat,?_,λb hb=>?_,q⟩
 ·have e1:lo + ((0:Nat):Int) * 1=lo:=by simp
  have e2:(((hi - lo).toNat:Nat):Int) - ((0:Nat):Int)=Ã3 lo hi 1:=by rw[rangeSize_one];split <;> omega
  show IsRangeIter _ _ (lo + ((0:Nat):Int) * 1) ((((hi - lo).toNat:Nat):Int) - ((0:Nat):Int)) 1;rw[e1,e2];exact Ð _ rfl
 ·have e:b=(s.heap.push { cls:=.type "range",data:=.fields #[.int lo t,.int hi u,.int 1 v] }).objs.size:=by simpa using hb
  subst e;exact I1.u31 (Ê _) (I1.hok.fresh (Ê _))
def H92(ta:TA):TI:=λσ H R=>ta σ H λvs H1=>∃ j:Int,vs=[.int j]/\-(2 ^ 62)<=j/\j < 2 ^ 62/\R (Itr 0 j.toNat) H1
def I02(ta:TA):TI:=λσ H R=>ta σ H λvs H1=>∃ i j:Int,vs=[.int i,.int j]/\(-(2 ^ 62)<=i/\i < 2 ^ 62/\-(2 ^ 62)<=j/\j < 2 ^ 62)/\R (Itr i (j - i).toNat) H1
theorem v21{a:Ò}{ta:TA}{p pos:Pos}(hg:Gl X "range")(hm:X.mg "range"=none)(ha:PA X [a] ta)(hs:þ [a] X.env=[(false,eval a X.env)]:=by rfl):PI X tg (.Call (.Name "range" p) [a] [] pos) (H92 ta):=by
 intro pins s σ H R I h;refine Call_ (x00 I hg hm boot_range (À5 (thn (ha pos pins s σ H _ I h) λus s1 ⟨vs,H1,I1,r1,q1⟩=>?_) hs rfl));obtain⟨j,e,q1,q2,q⟩:=q1;subst e;cases r1 with
 |cons r rr =>
  cases rr;obtain⟨t,rfl⟩:=r;exact call_range_1 (i31 I1 ∅ ∅ q1 q2 (by simpa using q))
theorem v31{a b:Ò}{ta:TA}{p pos:Pos}(hg:Gl X "range")(hm:X.mg "range"=none)(ha:PA X [a,b] ta)(hs:þ [a,b] X.env=[(false,eval a X.env),(false,eval b X.env)]:=by rfl)(hs2:þ [b] X.env=[(false,eval b X.env)]:=by rfl) :
  PI X tg (.Call (.Name "range" p) [a,b] [] pos) (I02 ta):=by
 intro pins s σ H R I h;refine Call_ (x00 I hg hm boot_range (À5 (thn (ha pos pins s σ H _ I h) λus s1 ⟨vs,H1,I1,r1,q1⟩=>?_) (by rw[hs,hs2]) (by rw[hs2];rfl)))
 obtain⟨i,j,e,⟨q1,q2,q3,q4⟩,q⟩:=q1;subst e;cases r1 with
 |cons r rr =>
  cases rr with
  |cons r' rr =>
   cases rr;obtain⟨t,rfl⟩:=r;obtain⟨t',rfl⟩:=r';exact call_range_2 (i31 I1 q1 q2 q3 q4 q)
def V52(wi:TI)(g:TG)(tb:TS):TS:=λD σ H=>wi σ H λJ H1=>∃ W:Nat->Nat->St->Hp->Prop,(∃ m,W 0 m σ H1)/\∀ i m σ H,W i m σ H ->
 (J.stop i H/\D.nx σ H)∨(J.go i H/\∃ N:St->Hp->Prop,(∀ σ' H',N σ' H'->∃ m',m' < m/\W (i + 1) m' σ' H')/\∀ x H',J.yld i H x H'->g x σ H' λσ2 H2=>tb { D with nx:=N,ct:=N,bk:=D.nx } σ2 H2)
def F60(fp:List È)(h:ò):List (È × Obj):=fp.filterMap λb=>(h.get? b).map λo=>(b,o)
theorem n00{fp:List È}{h:ò}{b:È}{o:Obj}(hb:b∈fp)(e:h.get? b=some o):(b,o)∈F60 fp h:=Õ9.mpr ⟨b,hb,by rw[e];rfl⟩
theorem U40{fp:List È}{h:ò}{p:È × Obj}(hp:p∈F60 fp h):p.1∈fp/\h.get? p.1=some p.2:=by
 obtain⟨b,hb,e⟩:=Õ9.mp hp;cases q:h.get? b with
 |none=>rw[q] at e;cases e
 |some o =>
  rw[q] at e;have e':(b,o)=p:=Á5 e;subst e';exact⟨hb,q⟩
theorem Inv.pinned{pins:List (È × Obj)}{σ:St}{H:Hp}{s:Æ}{fp:List È}(I:Inv X pins σ H s)(hf:∀ b∈fp,i21 X pins H b)(ho:∀ b∈fp,∃ o,s.heap.get? b=some o/\∀ v,o.data≠.cell v):Inv X (pins++F60 fp s.heap) σ H s :=
 I.F50 λp hp=>(ó.mp hp).elim (λz=>I.pin p (Ú _ z)) λz=>by
  obtain⟨hb,e⟩:=U40 z;obtain⟨f0,f1,f2,_⟩:=hf p.1 hb;obtain⟨o,e',d⟩:=ho p.1 hb;rw[e] at e';cases e';exact⟨e,f0,f1,f2,d⟩
theorem Inv.N10{pins pl:List (È × Obj)}{σ:St}{H:Hp}{s:Æ}(I:Inv X (pins++pl) σ H s):Inv X pins σ H s:=I.F50 λp hp=>I.pin p (Ú _ (Á4 _ hp))
theorem V81{iter:Ò}{body:List Ç9}{wi:TI}{g:TG}{tb:TS}{pos:Pos}(hp:PassesOwn (Û X.prog X.w) X.A X.env X.xe)(hc:X.calm=true)(hi:PI X tg iter wi)(hg:PG X tg g)(hb:PSs X body tb)
  (hs:∀ x,É0 iter X.env x=pure x:=by intro _;rfl):PS X (.For tg iter body [] pos) (V52 wi g tb):=by
 intro pins s σ H D I h;refine wpAny_For (thn (hi pins s σ H _ I h) λv s1 h1=>thn h1 λitv s2 h2=>?_) hs;obtain⟨it,fp,tn,J,H2,e,I2,T,st2,f2,W,⟨m0,w0⟩,turn⟩:=h2;subst e;have stat:∀ {H':Hp},(∀ b∈fp,H' b=none)->∀ b∈fp,i21 X pins H' b:=λhn b hb=>⟨hn b hb,(f2 b hb).2⟩;refine codeAny_forLoop_any (λn s'=>∃ i σ' H',Inv X pins σ' H' s'/\tn i s'.heap/\(∀ b∈fp,H' b=none)/\W i n σ' H') ?_ m0 ⟨0,σ,H2,I2,st2,λb hb=>(f2 b hb).1,w0⟩;rintro n s3 ⟨i,σ3,H3,I3,st3,fr3,w3⟩;rcases turn i n σ3 H3 w3 with ⟨stop,qn⟩ | ⟨go,N,hN,step⟩
 ·refine È6 hp (thn (T.done X rfl rfl rfl hc i pins s3 σ3 H3 X.xe I3 (stat fr3) st3 stop) λr s4 ⟨hr,I4⟩=>?_);subst hr;exact Ý4 ⟨σ3,H3,I4,qn⟩
 ·refine È6 hp (thn (T.item X rfl rfl rfl hc i pins s3 σ3 H3 X.xe I3 (stat fr3) st3 go) λr s4 ⟨u,hr,h4⟩=>?_);subst hr;refine È6 hp (thn h4 λ_ s5 ⟨x,H5,I5,r5,y5,st5,fr5⟩=>?_);have I5':=I5.pinned (stat fr5) (T.obj _ _ st5);refine È6 hp (thn (hg _ s5 σ3 H5 x u _ I5' r5 (step x H5 y5)) λ_ s6 ⟨σ6,H6,I6,q6⟩=>?_);refine È6 hp (thn (hb _ s6 σ6 H6 _ I6 q6) λf s7 q7=>?_);have again:∀ {σ7:St}{H7:Hp},Inv X (pins++F60 fp s5.heap) σ7 H7 s7->N σ7 H7->∃ m,m < n/\∃ i σ' H',Inv X pins σ' H' s7/\tn i s7.heap/\(∀ b∈fp,H' b=none)/\W i m σ' H':=λ{σ7 H7} I7 n7=>by
   obtain⟨m',hm,w7⟩:=hN σ7 H7 n7;refine⟨m',hm,i + 1,σ7,H7,I7.N10,T.keep _ _ _ st5 λb hb o e=>(I7.pin (b,o) (Ú _ (Ú _ (n00 hb e)))).1,λb hb=>?_,w7⟩;obtain⟨o,e,d⟩:=T.obj _ _ st5 b hb;exact(I7.pin (b,o) (Ú _ (Ú _ (n00 hb e)))).2.1
  cases f with
  |next=>obtain⟨σ7,H7,I7,n7⟩:=q7;exact again I7 n7
  |cont=>obtain⟨σ7,H7,I7,n7⟩:=q7;exact again I7 n7
  |brk=>obtain⟨σ7,H7,I7,q7⟩:=q7;exact⟨σ7,H7,I7.N10,q7⟩
  |ret v=>obtain⟨x7,σ7,H7,I7,r7,q7⟩:=q7;exact⟨x7,σ7,H7,I7.N10,r7,q7⟩
end
abbrev R2:=V->V->Hp->VK->Prop
def OpR(X:Cx)(f:Ã->Ã->Sem Ã)(r:R2):Prop :=
 ∀ (pins:List (È × Obj)) (s:Æ) (σ:St) (H:Hp) (x y:V) (v u:Ã) (Q:VK),Inv X pins σ H s->RelV x v->RelV y u->r x y H Q ->
  Ô (Û X.prog X.w) X.A (f v u) (EP X pins σ Q) X.xe s
def UnR(X:Cx)(f:Ã->Sem Ã)(r:V->Hp->VK->Prop):Prop :=
 ∀ (pins:List (È × Obj)) (s:Æ) (σ:St) (H:Hp) (x:V) (v:Ã) (Q:VK),Inv X pins σ H s->RelV x v->r x H Q ->
  Ô (Û X.prog X.w) X.A (f v) (EP X pins σ Q) X.xe s
def h00(X:Cx)(f:Ã)(r:List V->Hp->VK->Prop):Prop :=
 ∀ (pins:List (È × Obj)) (s:Æ) (σ:St) (H:Hp) (xs:List V) (us:List Ã) (Q:VK),Inv X pins σ H s->Vals xs us->r xs H Q ->
  Ô (Û X.prog X.w) X.A (call f us) (EP X pins σ Q) X.xe s
def tOp(r:R2)(ta tb:TE):TE:=λσ H Q=>ta σ H λx H1=>tb σ H1 λy H2=>r x y H2 Q
def tUn(r:V->Hp->VK->Prop)(ta:TE):TE:=λσ H Q=>ta σ H λx H1=>r x H1 Q
def rI(C:Int->Int->Prop)(g:Int->Int->V):R2:=λx y H Q=>∃ i j,x=.int i/\y=.int j/\C i j/\Q (g i j) H
def rI0(g:Int->Int->V):R2:=λx y H Q=>∃ i j,x=.int i/\y=.int j/\Q (g i j) H
def rU(g:Int->V):V->Hp->VK->Prop:=λx H Q=>∃ i,x=.int i/\Q (g i) H
section
variable {X:Cx}{a b c:Ò}{ta tb tc:TE}{pos:Pos}
theorem I12(ha:PE X a ta)(hb:PE X b tb){pins:List (È × Obj)}{s:Æ}{σ:St}{H:Hp}{R:V->V->Hp->Prop}(I:Inv X pins σ H s)
  (h:ta σ H λx H1=>tb σ H1 λy H2=>R x y H2) {Q:Ã->Æ->Prop}{f:Ã->Ã->Sem Ã}
  (hf:∀ v u s2 x y H2,Inv X pins σ H2 s2->RelV x v->RelV y u->R x y H2->Ô (Û X.prog X.w) X.A (f v u) Q X.xe s2) :
  Ô (Û X.prog X.w) X.A (eval a X.env) (λv s₁=>Ô (Û X.prog X.w) X.A (eval b X.env) (λu s₂=>Ô (Û X.prog X.w) X.A (f v u) Q X.xe s₂) X.xe s₁) X.xe s:=by
 refine thn (ha pins s σ H _ I h) λv s1 ⟨x,H1,I1,r1,q1⟩=>?_;refine thn (hb pins s1 σ H1 _ I1 q1) λu s2 ⟨y,H2,I2,r2,q2⟩=>?_;exact hf v u s2 x y H2 I2 r1 r2 q2
theorem I22{op:Ð6}{r:R2}(ho:OpR X (Ã2 op) r)(ha:PE X a ta)(hb:PE X b tb):PE X (.BinOp a op b pos) (tOp r ta tb):=by
 intro pins s σ H Q I h;exact wpAny_BinOp (I12 ha hb I h λv u s2 x y H2 I2 rx ry q=>ho pins s2 σ H2 x y v u Q I2 rx ry q)
theorem I32{op:UnaryOp}{r:V->Hp->VK->Prop}(ho:UnR X (unaryOp op) r)(ha:PE X a ta):PE X (.UnaryOp op a pos) (tUn r ta):=by
 intro pins s σ H Q I h;exact UnaryOp_ (thn (ha pins s σ H _ I h) λv s1 ⟨x,H1,I1,r1,q1⟩=>ho pins s1 σ H1 x v Q I1 r1 q1)
theorem opI{f:Ã->Ã->Sem Ã}{C:Int->Int->Prop}{g:Int->Int->Int}
  (rule:∀ (i j:Int) (t u:Tok) (s:Æ) (Q:Ã->Æ->Prop) (E:Ã->Æ->Prop),C i j->Q (.int (g i j) s.toks) { s with toks:=s.toks + 1 }->Ô (Û X.prog X.w) X.A (f (.int i t) (.int j u)) Q E s) :
  OpR X f (rI C λi j=>.int (g i j)):=by
 intro pins s σ H x y v u Q I rx ry h;obtain⟨i,j,rfl,rfl,hc,q⟩:=h;obtain⟨t,rfl⟩:=rx;obtain⟨t',rfl⟩:=ry;exact rule i j t t' s _ _ hc ⟨.int (g i j),H,I.tok _,⟨_,rfl⟩,q⟩
theorem I42{f:Ã->Ã->Sem Ã}{g:Int->Int->Int}
  (rule:∀ (i j:Int) (t u:Tok) (s:Æ) (Q:Ã->Æ->Prop) (E:Ã->Æ->Prop),Q (.int (g i j) s.toks) { s with toks:=s.toks + 1 }->Ô (Û X.prog X.w) X.A (f (.int i t) (.int j u)) Q E s) :
  OpR X f (rI0 λi j=>.int (g i j)):=by
 intro pins s σ H x y v u Q I rx ry h;obtain⟨i,j,rfl,rfl,q⟩:=h;obtain⟨t,rfl⟩:=rx;obtain⟨t',rfl⟩:=ry;exact rule i j t t' s _ _ ⟨.int (g i j),H,I.tok _,⟨_,rfl⟩,q⟩
theorem I52{f:Ã->Ã->Sem Ã}{g:Int->Int->Bool}
  (rule:∀ (i j:Int) (t u:Tok) (s:Æ) (Q:Ã->Æ->Prop) (E:Ã->Æ->Prop),Q (.bool (g i j)) s->Ô (Û X.prog X.w) X.A (f (.int i t) (.int j u)) Q E s) :
  OpR X f (rI0 λi j=>.bl (g i j)):=by
 intro pins s σ H x y v u Q I rx ry h;obtain⟨i,j,rfl,rfl,q⟩:=h;obtain⟨t,rfl⟩:=rx;obtain⟨t',rfl⟩:=ry;exact rule i j t t' s _ _ ⟨.bl (g i j),H,I,rfl,q⟩
def R72(i j:Int):Prop:=0<=j/\j<=1000000/\i.natAbs < 2 ^ 64
theorem s72:OpR X (Ã2 .Add) (rI0 λi j=>.int (i + j)):=I42 λ_ _ _ _ _ _ _ q=>add_int q
theorem s82:OpR X (Ã2 .Sub) (rI0 λi j=>.int (i - j)):=I42 λ_ _ _ _ _ _ _ q=>sub_int q
theorem s92:OpR X (binaryOp .Mod) (rI (λ_ j=>0 < j) λi j=>.int (i % j)):=opI λi j _ _ _ _ _ hc q=>by
 have h1:(0:Int) < j:=hc;exact mod_int' ∅ (by rw[Int.fmod_eq_emod_of_nonneg i ∅];exact q)
theorem t02:OpR X (Ã2 .Pow) (rI R72 λi j=>.int (i ^ j.toNat)):=opI λ_ _ _ _ _ _ _ hc q=>pow_int_small hc.1 hc.2.1 hc.2.2 q
theorem t12:OpR X (Ã2 .LShift) (rI R72 λi j=>.int (i * 2 ^ j.toNat)):=opI λ_ _ _ _ _ _ _ hc q=>lshift_int_small hc.1 hc.2.1 hc.2.2 q
theorem t22:OpR X (Ã2 .BitAnd) (rI0 λi j=>.int (Å6.bitAnd i j)):=I42 λ_ _ _ _ _ _ _ q=>and_int q
theorem unI{f:Ã->Sem Ã}{g:Int->Int}
  (rule:∀ (i:Int) (t:Tok) (s:Æ) (Q:Ã->Æ->Prop) (E:Ã->Æ->Prop),Q (.int (g i) s.toks) { s with toks:=s.toks + 1 }->Ô (Û X.prog X.w) X.A (f (.int i t)) Q E s) :
  UnR X f (rU λi=>.int (g i)):=by
 intro pins s σ H x v Q I rx h;obtain⟨i,rfl,q⟩:=h;obtain⟨t,rfl⟩:=rx;exact rule i t s _ _ ⟨.int (g i),H,I.tok _,⟨_,rfl⟩,q⟩
theorem t32:UnR X (unaryOp .USub) (rU λi=>.int (-i)):=unI λ_ _ _ _ _ q=>neg_int q
theorem V91{pins:List (È × Obj)}{σ:St}{H:Hp}{s:Æ}{Q:VK}{k k':Bool}(I:Inv X pins σ H s)(q:Q (.bl k) H)(e:k=k'):EP X pins σ Q (.bool k') s:=by
 subst e;exact⟨.bl k,H,I,rfl,q⟩
theorem I62:OpR X (û .LtE) (rI0 λi j=>.bl (decide (i<=j))):=I52 λ_ _ _ _ _ _ _ q=>le_int q
theorem I72:OpR X (û .Gt) (rI0 λi j=>.bl (decide (j < i))):=I52 λ_ _ _ _ _ _ _ q=>gt_int q
theorem I82:OpR X (û .GtE) (rI0 λi j=>.bl (decide (j<=i))):=I52 λ_ _ _ _ _ _ _ q=>ge_int q
theorem c02:OpR X (û .IsNot) (λx y H Q=>y=.non/\Q (.bl (!decide (x=.non))) H):=by
 intro pins s σ H x y v u Q I rx ry h;obtain⟨rfl,q⟩:=h;cases ry;refine isnot_none_gen (V91 I q ?_);cases x <;> first
  |(cases rx;rfl)
  |(obtain⟨t,rfl⟩:=rx;rfl)
theorem v41{op:CmpOp}{r:R2}(ho:OpR X (û op) r)(ha:PE X a ta)(hb:PE X b tb)(hm:behindInMarks op b=false):PE X (.Compare a [op] [b] pos) (tOp r ta tb):=by
 intro pins s σ H Q I h;exact wpAny_Compare1 (I12 ha hb I h λv u s2 x y H2 I2 rx ry q=>ho pins s2 σ H2 x y v u Q I2 rx ry q) hm
def t42(t:TE):TT:=λσ H Q=>t σ H λx H'=>∃ k,x=.bl k/\Q k H'
theorem v51{op:CmpOp}{r:R2}(ho:OpR X (û op) r)(ha:PE X a ta)(hb:PE X b tb)(hm:behindInMarks op b=false):PT X (.Compare a [op] [b] pos) (t42 (tOp r ta tb)):=by
 intro pins s σ H Q I h;refine wpAny_isTrue_Compare1 (thn (ha pins s σ H _ I h) λv s1 ⟨x,H1,I1,r1,q1⟩=>thn (hb pins s1 σ H1 _ I1 q1) λu s2 ⟨y,H2,I2,r2,q2⟩ =>
  thn (ho pins s2 σ H2 x y v u _ I2 r1 r2 q2) λc s3 ⟨z,H3,I3,r3,k,e,q3⟩=>?_) hm
 subst e;cases r3;exact À8 ⟨H3,I3,q3⟩
def v61(r r':R2)(ta tb tc:TE):TE:=λσ H Q=>ta σ H λx H1=>tb σ H1 λy H2=>r x y H2 λz H3=>∃ k,z=.bl k /\
 (if k=true then tc σ H3 λw' H4=>r' y w' H4 Q else Q (.bl false) H3)
theorem L61{op op':CmpOp}{r r':R2}(ho:OpR X (û op) r)(ho':OpR X (û op') r')(ha:PE X a ta)(hb:PE X b tb)(hc:PE X c tc)
  (hm:lastMarks [op,op'] [b,c]=false:=by with_unfolding_all rfl):PE X (.Compare a [op,op'] [b,c] pos) (v61 r r' ta tb tc):=by
 intro pins s σ H Q I h;refine Compare_chain (thn (ha pins s σ H _ I h) λv s1 ⟨x,H1,I1,r1,q1⟩=>chain_link (thn (hb pins s1 σ H1 _ I1 q1) λu s2 ⟨y,H2,I2,r2,q2⟩ =>
  thn (ho pins s2 σ H2 x y v u _ I2 r1 r2 q2) λd s3 ⟨z,H3,I3,r3,k,e,q3⟩=>?_)) hm
 subst e;cases r3;refine À8 ?_;cases k with
 |false=>exact ite_ff ⟨.bl false,H3,I3,rfl,q3⟩|true=>exact ite_tt (chain_last (thn (hc pins s3 σ H3 _ I3 q3) λw' s4 ⟨z',H4,I4,r4,q4⟩=>ho' pins s4 σ H4 y z' u w' Q I4 r2 r4 q4))
theorem L71{op op':CmpOp}{r r':R2}(ho:OpR X (û op) r)(ho':OpR X (û op') r')(ha:PE X a ta)(hb:PE X b tb)(hc:PE X c tc)
  (hm:lastMarks [op,op'] [b,c]=false:=by with_unfolding_all rfl):PT X (.Compare a [op,op'] [b,c] pos) (t42 (v61 r r' ta tb tc)):=by
 intro pins s σ H Q I h;refine isTrue_chain (thn (ha pins s σ H _ I h) λv s1 ⟨x,H1,I1,r1,q1⟩=>test_link (thn (hb pins s1 σ H1 _ I1 q1) λu s2 ⟨y,H2,I2,r2,q2⟩ =>
  thn (ho pins s2 σ H2 x y v u _ I2 r1 r2 q2) λd s3 ⟨z,H3,I3,r3,k,e,q3⟩=>?_)) hm
 subst e;cases r3;refine À8 ?_;cases k with
 |false =>
  obtain⟨k',e',q'⟩:=q3;cases e';exact ite_ff ⟨H3,I3,q'⟩
 |true =>
  refine ite_tt (test_last (thn (hc pins s3 σ H3 _ I3 q3) λw' s4 ⟨z',H4,I4,r4,q4⟩=>thn (ho' pins s4 σ H4 y z' u w' _ I4 r2 r4 q4) λd' s5 ⟨z2,H5,I5,r5,k2,e2,q5⟩=>?_));subst e2;cases r5;exact À8 ⟨H5,I5,q5⟩
theorem i41:(sizeLine:Nat) < 2 ^ 63:=by rw[Â7];decide
theorem vals1{x:V}{us:List Ã}(r:Vals [x] us):∃ u,us=[u]/\RelV x u:=by
 cases r with
 |cons r1 r2=>cases r2;exact⟨_,rfl,r1⟩
theorem vals2{x y:V}{us:List Ã}(r:Vals [x,y] us):∃ u w',us=[u,w']/\RelV x u/\RelV y w':=by
 cases r with
 |cons r1 r2 =>
  cases r2 with
  |cons r3 r4=>cases r4;exact⟨_,_,rfl,r1,r3⟩
theorem L81:h00 X (.builtin "abs") (λxs H Q=>∃ i,xs=[.int i]/\Q (.int (if i < 0 then -i else i)) H):=by
 intro pins s σ H xs us Q I r h;obtain⟨i,rfl,q⟩:=h;obtain⟨u,rfl,t,rfl⟩:=vals1 r;exact call_abs_int λu tk=>⟨.int (if i < 0 then -i else i),H,I.tok _,⟨_,rfl⟩,q⟩
theorem v71(hc:X.calm=true):h00 X (.builtin "max") (λxs H Q=>∃ i j,xs=[.int i,.int j]/\Q (.int (if j > i then j else i)) H):=by
 intro pins s σ H xs us Q I r h;obtain⟨i,j,rfl,q⟩:=h;obtain⟨u,w',rfl,⟨t,rfl⟩,⟨t',rfl⟩⟩:=vals2 r;refine max_two_ints (I.ok.hd hc) λh' tk k=>⟨_,H,I.kept k,?_,q⟩;by_cases hj:j > i
 ·rw[if_pos hj,if_pos hj];exact⟨_,rfl⟩
 ·rw[if_neg hj,if_neg hj];exact⟨_,rfl⟩
theorem v81(hc:X.calm=true):h00 X (.builtin "min") (λxs H Q=>∃ i j,xs=[.int i,.int j]/\Q (.int (if j < i then j else i)) H):=by
 intro pins s σ H xs us Q I r h;obtain⟨i,j,rfl,q⟩:=h;obtain⟨u,w',rfl,⟨t,rfl⟩,⟨t',rfl⟩⟩:=vals2 r;refine min_two_ints (I.ok.hd hc) λh' tk k=>⟨_,H,I.kept k,?_,q⟩;by_cases hj:j < i
 ·rw[if_pos hj,if_pos hj];exact⟨_,rfl⟩
 ·rw[if_neg hj,if_neg hj];exact⟨_,rfl⟩
theorem U50:h00 X (.type "int") (λxs H Q=>(∃ i,xs=[.int i]/\Q (.int i) H)∨∃ k,xs=[.bl k]/\Q (.int (if k then 1 else 0)) H):=by
 intro pins s σ H xs us Q I r h;rcases h with ⟨i,rfl,q⟩ | ⟨k,rfl,q⟩
 ·obtain⟨u,rfl,t,rfl⟩:=vals1 r;exact call_int_int ⟨.int i,H,I,⟨_,rfl⟩,q⟩
 ·obtain⟨u,rfl,r1⟩:=vals1 r;cases r1;exact call_int_bool ⟨.int (if k then 1 else 0),H,I.tok _,⟨_,rfl⟩,q⟩
end
structure U60(k:Nat)(A:Around):Prop where
 hd:A.handled=none
 dp:A.depth + 3 * k + 5 < recursionLimit
 un:A.units + 16 * k + 200 < cLine
theorem U60.deeper{k:Nat}{A:ý}(r:U60 (k + 1) A)(env:Env):U60 k (A.deeper env) :=
 ⟨r.hd,by have:=r.dp;show A.depth + 1 + 3 * k + 5 < _;omega,by have:=r.un;show A.units + 3 + 16 * k + 200 < _;omega⟩
theorem U60.depth{k:Nat}{A:ý}(r:U60 k A):A.depth < recursionLimit:=by have:=r.dp;omega
theorem U60.units{k:Nat}{A:ý}(r:U60 k A):A.units + 64 < cLine:=by have:=r.un;omega
def R82:TA:=λ_ H Q=>Q [] H
def t52(ta:TE)(tr:TA):TA:=λσ H Q=>ta σ H λx H1=>tr σ H1 λxs H2=>Q (x::xs) H2
section
variable {X:Cx}{e:Ò}{es:List Ò}{te:TE}{t:TA}{pos:Pos}
theorem L10:PA X [] R82:=λ_ _ _ _ H Q I h=>Ø2 ⟨[],H,I,.nil,h⟩
theorem o30(ha:PE X e te)(hr:PA X es t)(hs:þ (e::es) X.env=(false,eval e X.env)::þ es X.env:=by rfl):PA X (e::es) (t52 te t):=by
 intro pos pins s σ H Q I h;rw[hs];show Ô _ _ (spliced ((false,eval e X.env)::Ó9 pos (þ es X.env))) _ _ s;refine Calls.spliced_cons (thn (ha pins s σ H _ I h) λu s1 ⟨x,H1,I1,r1,q1⟩=>?_);exact thn (hr pos pins s1 σ H1 _ I1 q1) λus s2 ⟨xs,H2,I2,r2,q2⟩=>⟨x::xs,H2,I2,.cons r1 r2,q2⟩
def V62(t:TA):TE:=λσ H Q=>t σ H λxs H1=>xs.length<=sizeLine/\∀ p,H1 p=none->Q (.ref p) (upd H1 p (.tup xs))
def V72(t:TA):TE:=λσ H Q=>t σ H λxs H1=>xs.length<=sizeLine/\∀ p,H1 p=none->Q (.ref p) (upd H1 p (.lst xs))
theorem W01{x1}(h:PA X es t):PE X (.Tuple es x1 pos) (V62 t):=by
 intro pins s σ H Q I hq;refine wpAny_Tuple_spliced (thn (h pos pins s σ H _ I hq) λus s1 ⟨xs,H1,I1,r,z,q⟩=>⟨by rw[← r.length];exact z,?_⟩)
 have hf:H1 s1.heap.objs.size=none:=I1.hok.fresh (Ê _);refine⟨.ref s1.heap.objs.size,upd H1 s1.heap.objs.size (.tup xs),I1.laid (t':=s1.toks) (λb u e=>Ä _ e) (Ê _) ?_,rfl,q _ hf⟩;exact⟨z,us,r,⟨_,Ð _ rfl,rfl,_,rfl⟩⟩
theorem t62(h:PA X es t):PE X (.List es pos) (V72 t):=by
 intro pins s σ H Q I hq;refine wpAny_List_spliced (thn (h pos pins s σ H _ I hq) λus s1 ⟨xs,H1,I1,r,z,q⟩=>⟨by rw[← r.length];exact z,?_⟩)
 have hf:H1 s1.heap.objs.size=none:=I1.hok.fresh (Ê _);refine⟨.ref s1.heap.objs.size,upd H1 s1.heap.objs.size (.lst xs),I1.laid (t':=s1.toks) (λb u e=>Ä _ e) (Ê _) ?_,rfl,q _ hf⟩;exact⟨z,us,0,r,Ð _ rfl⟩
end
abbrev Sp:=List V->Hp->VK->XK->Prop
abbrev CXT:=List Env->Hp->Æ->XK->Ã->Æ->Prop
structure F82(P:Program)(w:World)(K:PySem.W.Frag)(mg:Str->Option Value)(base:Heap)(A:Around)(outer:List Env)(s:Shared)(H:Hp):Prop where
 frames:A.frames=some outer
 mod:Mod K mg base
 bs:∀ b o,base.get? b=some o->s.heap.get? b=some o/\H b=none
 bsz:base.objs.size<=s.heap.objs.size
 K61:s.heap.FunFrames base outer
 frf:∀ b∈frs outer,H b=none
 hok:HOk P w H s.heap
 bare:AllBare s.gens
def CE(outer:List Env)(P:ç)(w:ø)(H:Hp)(s:Æ)(Q:VK)(u:Ã)(s':Æ):Prop :=
 ∃ v H',s'.os=s.os/\Ô1 s'.gens/\Un (frs outer) [] H H' s.heap s'.heap/\HOk P w H' s'.heap/\RelV v u/\Q v H'
def CR(CX:CXT)(outer:List Env)(P:ç)(w:ø)(H:Hp)(s:Æ)(Q:VK)(E:XK)(r:Result)(s':Æ):Prop :=
 match r with
 |.ok (.ret u)=>CE outer P w H s Q u s'|.ok _=>False|.error e=>CX outer H s E e s'
structure q31(P:Program)(w:World)(K:PySem.W.Frag)(mg:Str->Option Value)(base:Heap)(CX:CXT)(k:Nat)(f:Addr)(fd:FuncData)(ps:List Str)(sp:Sp):Prop where
 len:∀ vs H Q E,sp vs H Q E->vs.length=ps.length
 run:∀ (A:Around) (outer:List Env) (s:Shared) (H:Hp) (args:Args) (us:List Value) (vs:List V) (Q:VK) (E:XK),U60 k A->F82 P w K mg base A outer s H->BindsTo s fd args (ps.zip us)->Vals vs us->sp vs H Q E ->
  codeAny (model P w) A (.call (.ref f) args) (CR CX outer P w H s Q E) s
section
variable {X:Cx}{pins:List (È × Obj)}{σ:St}{H:Hp}{s s':Æ}
theorem Inv.V82(I:Inv X pins σ H s):F82 X.prog X.w X.K X.mg X.base X.A X.stack s H :=
 ⟨I.ok.frames,I.ok.mod,I.bs,Ù I.ok.bsz I.sz,I.stack,I.b51,I.hok,I.bare⟩
theorem Inv.after{Q:VK}{u:Ã}(I:Inv X pins σ H s)(h:CE X.stack X.prog X.w H s Q u s'):EP X pins σ Q u s':=by
 obtain⟨v,H',os,bare,un,hok,r,q⟩:=h;obtain⟨hh,g,d,t,os'⟩:=s';obtain rfl:os'=s.os:=os;exact⟨v,H',I.call (h':=hh) (g':=g) (d':=d) (t':=t) (ch:=[]) un hok bare (λb z=>absurd z (by simp)),r,q⟩
end
def I92(sp:Sp)(dvs:List V)(E:XK)(t:TA):TE:=λσ H Q=>t σ H λvs H1=>sp (vs++dvs) H1 Q E
def Binds(K:Â)(fd:Ë2)(ps:List Str)(ds:List Ã):Prop :=
 ∀ (s:Æ) (us:List Ã),K.In s.heap->(us++ds).length=ps.length->BindsTo s fd ⟨us,[]⟩ (ps.zip (us++ds))
theorem Binds.all{K:Â}{fd:Ë2}{ps:List Str}(h:∀ us:List Ã,us.length=ps.length->bindArgs fd ⟨us,[]⟩=pure (ps.zip us)):Binds K fd ps []:=λs us _ hl=>by
 rw[Ã0] at hl ⊢;exact .of_eq (h us hl)
def Passes(CX:CXT)(X:Cx)(E:XK):Prop:=∀ (pins:List (È × Obj)) (σ:St) (H:Hp) (s:Æ) (e:Ã) (s':Æ),Inv X pins σ H s->CX X.stack H s E e s'->X.xe e s'
section
variable {X:Cx}{CX:CXT}{k:Nat}{f C:È}{fd:Ë2}{ps:List Str}{sp:Sp}{dvs:List V}{ds:List Ã}{E:XK}{x m:Str}{p pos apos:Pos}{e o:Ò}{es:List Ò}{ta:TE}{t:TA}
theorem t72{pins:List (È × Obj)}{σ:St}{H:Hp}{s:Æ}{Q:VK}{us:List Ã}{vs:List V}(F:q31 X.prog X.w X.K X.mg X.base CX k f fd ps sp)(hr:U60 k X.A)(hb:Binds X.K fd ps ds)(hd:Vals dvs ds)(hx:Passes CX X E)
  (I:Inv X pins σ H s) (r:Vals vs us) (h:sp (vs++dvs) H Q E):Ô (Û X.prog X.w) X.A (call (.ref f) us) (EP X pins σ Q) X.xe s:=by
 have r2:Vals (vs++dvs) (us++ds):=r.append hd;have hl:(us++ds).length=ps.length:=by rw[← r2.length];exact F.len _ _ _ _ h
 refine wpAny_call (Ó7 (F.run X.A X.stack s H ⟨us,[]⟩ (us++ds) (vs++dvs) Q E hr I.V82 (hb s us I.kIn hl) r2 h) λr s' hq=>?_);cases r with
 |error e=>exact hx pins σ H s e s' I hq
 |ok fl =>
  cases fl with
  |ret u=>exact I.after hq|next=>exact Æ5 hq
  |brk=>exact Æ5 hq|cont=>exact Æ5 hq
theorem c12(F:q31 X.prog X.w X.K X.mg X.base CX k f fd ps sp)(hr:U60 k X.A)(hg:Gl X x)(hm:X.mg x=some (.ref f))(hk:PySem.W.keepIn X.K (.ref f)=true)(hb:Binds X.K fd ps ds)(hd:Vals dvs ds)(hx:Passes CX X E)
  (ha:PA X (e::es) t) (hdb:(x == ("__debug__":Str))=false:=by decide) (he:þ (e::es) X.env=(false,eval e X.env)::þ es X.env:=by rfl) (hpl:(Ó9 pos (þ es X.env)).any (·.1)=false:=by rfl) :
  PE X (.Call (.Name x p) (e::es) [] pos) (I92 sp dvs E t):=by
 intro pins s σ H Q I h;refine Ù8 (b61 I hg hm ?_ hdb);refine PySem.W.callWith_K (h₀:=X.base) I.ok.mod.kin hk (thn (ha pos pins s σ H _ I h) λus s1 ⟨vs,H1,I1,r,q⟩=>⟨I1.kIn,?_⟩) he hpl;exact t72 F hr hb hd hx I1 r q
end
structure u90(N P:List Str)(sc:Scope):Prop where
 kind:sc.kind=.function
 co:sc.isCoroutine=false
 gen:sc.isGenerator=false
 nd:N.Nodup
 pre:N.take P.length=P
 par:∀ x∈P,sc.names.lookup x=some .local∨sc.names.lookup x=some .cell
 nofree:∀ y∈sc.names,y.2≠.free
theorem U70{kindOf:Str->Option Ë1}{x:Str}:∀ {binds:List (Str × Ã)}{m:Str->Option Ã},(∀ v,(x,v) ∉ binds)->bindL kindOf binds m x=m x
 |[],_,_=>rfl
 |(n,v)::r,m,h=>by
  unfold bindL;rw[U70 λw hw=>h w (É _ hw)];split
  ·have:x≠n:=by rintro rfl;exact h v Ç
   simp[this]
  ·rfl
theorem U80{kindOf:Str->Option Ë1}{x:Str}:∀ {binds:List (Str × Ã)}{m:Str->Option Ã},(∀ v,(x,v) ∉ binds)->bindC kindOf binds m x=m x
 |[],_,_=>rfl
 |(n,v)::r,m,h=>by
  unfold bindC;rw[U80 λw hw=>h w (É _ hw)];split
  ·rfl
  ·have:x≠n:=by rintro rfl;exact h v Ç
   simp[this]
theorem U90{kindOf:Str->Option Ë1}{x:Str}{v:Ã}:∀ {P:List Str}{vs:List Ã}{i:Nat}{m:Str->Option Ã},P.Nodup->P[i]?=some x->vs[i]?=some v->kindOf x=some .local ->
  bindL kindOf (P.zip vs) m x=some v
 |[],_,_,_,_,h,_,_=>by simp at h|_::_,[],_,_,_,_,h,_=>by simp at h
 |p::P,w::vs,0,m,nd,h1,h2,hk=>by
  simp at h1 h2;subst h1;subst h2;show bindL kindOf ((p,w)::P.zip vs) m p=_;unfold bindL;rw[U70 λv hv=>(Ò2.mp nd).1 (of_mem_zip hv).1,if_pos hk];simp
 |p::P,w::vs,i + 1,m,nd,h1,h2,hk=>by
  show bindL kindOf ((p,w)::P.zip vs) m x=_;unfold bindL;exact U90 (i:=i) (Ò2.mp nd).2 (by simpa using h1) (by simpa using h2) hk
theorem V00{kindOf:Str->Option Ë1}{x:Str}{v:Ã}:∀ {P:List Str}{vs:List Ã}{i:Nat}{m:Str->Option Ã},P.Nodup->P[i]?=some x->vs[i]?=some v->kindOf x≠some .local ->
  bindC kindOf (P.zip vs) m x=some v
 |[],_,_,_,_,h,_,_=>by simp at h|_::_,[],_,_,_,_,h,_=>by simp at h
 |p::P,w::vs,0,m,nd,h1,h2,hk=>by
  simp at h1 h2;subst h1;subst h2;show bindC kindOf ((p,w)::P.zip vs) m p=_;unfold bindC;rw[U80 λv hv=>(Ò2.mp nd).1 (of_mem_zip hv).1,if_neg hk];simp
 |p::P,w::vs,i + 1,m,nd,h1,h2,hk=>by
  show bindC kindOf ((p,w)::P.zip vs) m x=_;unfold bindC;exact V00 (i:=i) (Ò2.mp nd).2 (by simpa using h1) (by simpa using h2) hk
def start(N:List Str)(vs:List V):St:=vs.map some++í (N.length - vs.length) none
def V10(CX:CXT)(P:ç)(w:ø)(K:Â)(mg:Str->Option Ã)(base:ò)(N:List Str)(qual:Str)(scope:Á2)(f:È)(cd:Ã)(A:ý)(outer:List Env)(s:Æ)(H:Hp)(E:XK):Cx where
 prog:=P
 w:=w
 K:=K
 mg:=mg
 base:=base
 A:=A.deeper (Ö6 qual scope s.heap.objs.size f cd)
 N:=N
 s₀:=s
 H₀:=H
 env:=Ö6 qual scope s.heap.objs.size f cd
 outer:=outer
 stack:=Ö6 qual scope s.heap.objs.size f cd::outer
 ex:=[]
 calm:=true
 fn:=λ_=>true
 pn:=[]
 xe:=λe s'=>Ô (Û P w) (A.deeper (Ö6 qual scope s.heap.objs.size f cd)) (leaving (Ö6 qual scope s.heap.objs.size f cd) e) (λ_ s''=>CX outer H s E e s'') (λe' s''=>CX outer H s E e' s'') s'
theorem i51{sc:Á2}{n:Nat}{x:Str}(h:sc.names.lookup x=some .cell):∃ c,(cellsFrom n sc.names []).lookup x=some c:=by
 have q:=Ü8 sc.names n [] (.inl h);exact Ü4.mp q
theorem v91{CX:CXT}{P:ç}{w:ø}{K:Â}{mg:Str->Option Ã}{base:ò}{N ps:List Str}{qual:Str}{scope:Á2}{f:È}{cd:Ã}{A:ý}{outer:List Env}{s s1:Æ}{H:Hp}{E:XK}{us:List Ã}{vs:List V}
  (S:u90 N ps scope) (hd:A.handled=none) (e0:F82 P w K mg base A outer s H) (hl:vs.length=ps.length) (r:Vals vs us)
  (x:InCallC s s.heap.objs.size (bindL (Ö6 qual scope s.heap.objs.size f cd).kindOf (ps.zip us) λ_=>none) (cellsFrom (s.heap.objs.size + 1) scope.names []) (bindC (Ö6 qual scope s.heap.objs.size f cd).kindOf (ps.zip us) λ_=>none) s1) :
  Inv (V10 CX P w K mg base N qual scope f cd A outer s H E) [] (start N vs) H s1:=by
 have hpl:ps.length<=N.length:=by have:=congrArg Ú6 S.pre;rw[Å3] at this;omega
 obtain⟨h1,tk,rfl,hk⟩:=x.done;have noA:∀ b:È,b ∉ (V10 CX P w K mg base N qual scope f cd A outer s H E).ex:=λb z=>absurd (show b∈([]:List È) from z) (by simp)
 refine⟨⟨e0.mod,S.kind,rfl,rfl,Ê _,λy z c h1 h2=>?_,λy hy=>?_,λy c _ h=>?_,λ_=>hd,ý.frames_deeper e0.frames,.inr ⟨rfl,rfl⟩,λb z=>absurd z (noA b),e0.bs,e0.bsz,λb _ _=>noA b,λb z=>absurd z (noA b),e0.K61,e0.frf⟩,
  rfl,e0.bare,Un.kept hk,⟨_,x.toInCall.ns,λi y v h1 h2 h3=>?_⟩,λy c h=>⟨_,x.cell y c h⟩,e0.hok.fresh (Ê _),λy c h=>?_,λp hp=>absurd (show p∈([]:List (È × Obj)) from hp) (by simp),e0.hok.kept hk,?_⟩
 ·exact name_of_addr x.apart (Ç0 h1) (Ç0 h2)
 ·have hy:scope.names.lookup y=some .cell∨scope.names.lookup y=some .free:=hy;rcases hy with hy | hy
  ·exact i51 hy
  ·exact absurd rfl (S.nofree _ (Ç0 hy))
 ·exact Í5 (x.above y c (Ç0 h))
 ·have hi:i < vs.length:=by
   unfold start at h2;by_cases hi:i < vs.length
   ·exact hi
   ·rw[Å4 (by simpa using hi)] at h2
    rw[Ñ2] at h2;split at h2 <;> cases h2
  have ha:vs[i]?=some v:=by
   unfold start at h2;rw[Ï0 (by simpa using hi),ã] at h2
   cases e:vs[i]? with
   |none=>rw[e] at h2;cases h2
   |some a=>rw[e] at h2;cases h2;rfl
  obtain⟨u,hu,rv⟩:=r.get ha;have hp:ps[i]?=some y:=by
   rw[← S.pre,List.getElem?_take_of_lt ∅];exact h1
  have ndP:ps.Nodup:=by rw[← S.pre];exact S.nd.sublist (List.take_sublist _ _)
  refine⟨u,rv,?_⟩;rcases S.par y (ô hp) with k | k
  ·exact .inl ⟨k,U90 ndP hp hu k⟩
  ·obtain⟨c,e⟩:=i51 (n:=s.heap.objs.size + 1) k;refine .inr ⟨.inl k,c,e,?_⟩;have q:=x.cell y c e;rw[V00 ndP hp hu (by show scope.names.lookup y≠_;rw[k];decide)] at q
   exact q
 ·exact e0.hok.fresh (Í5 (x.above y c (Ç0 h)))
 ·unfold start;show _=N.length;rw[ö,Å,Þ1];omega
theorem J02{CX:CXT}{P:ç}{w:ø}{K:Â}{mg:Str->Option Ã}{base:ò}{k:Nat}{f:È}{name qual:Str}{params:Arguments}{body:List Ç9}{scope:Á2}{dV kV doc pm cdv ct oc:Ã}{an od:Option È}
  {osl:Array (Option Ã)}{N ps:List Str}{sp:Sp} (lk:K.lookup f=some ⟨oc,od,.func (fnOf name qual params body scope dV kV doc pm an cdv ct),osl⟩) (hcd:PySem.W.codeIn K cdv qual=true) (S:u90 N ps scope)
  (len:∀ vs H Q E,sp vs H Q E->vs.length=ps.length)
  (hbody:∀ (A:ý) (outer:List Env) (s:Æ) (H:Hp) (vs:List V) (Q:VK) (E:XK),U60 k (A.deeper (Ö6 qual scope s.heap.objs.size f cdv))->sp vs H Q E ->
   ∃ t,PSs (V10 CX P w K mg base N qual scope f cdv A outer s H E) body t/\t { nx:=λ_ H'=>Q .non H',rt:=Q } (start N vs) H) :
  q31 P w K mg base CX (k + 1) f (fnOf name qual params body scope dV kV doc pm an cdv ct) ps sp:=by
 refine⟨len,λA outer s H args us vs Q E hr e0 hb r hsp=>?_⟩;have hl:=len _ _ _ _ hsp;have KX:K.In s.heap:=e0.mod.kin.keeps λb o e=>(e0.bs b o e).1;have lim:s.heap.NoLimit:=e0.mod.nolimit.keeps λb o e=>(e0.bs b o e).1;have hkind:∀ y∈ps.zip us,scope.names.lookup y.1=some .local∨(scope.names.lookup y.1=some .cell/\((cellsFrom (s.heap.objs.size + 1) scope.names []).lookup y.1).isSome=true):=λ⟨n,v⟩ hy=>by
  rcases S.par n (of_mem_zip hy).1 with q | q
  ·exact .inl q
  ·exact .inr ⟨q,Ü8 _ _ _ (.inl q)⟩
 refine codeAny_call_function hr.depth (KX _ _ lk) rfl S.co S.gen rfl (PySem.W.codeRec_of KX hcd) (hb _ _ _ _ ?_);refine wpAny_newFunctionEnv_cells S.kind hkind λenv he s1 x=>?_;subst he;refine⟨lim.keeps x.toInCall.keep,codeAny_func ?_⟩;obtain⟨t,ht,hq⟩:=hbody A outer s H vs Q E (hr.deeper _) hsp;have I:Inv (V10 CX P w K mg base N qual scope f cdv A outer s H E) [] (start N vs) H s1:=v91 S hr.hd e0 hl r x;refine Å2 (ht [] s1 (start N vs) H _ I hq) (λfl s' hs=>?_) λe s' hs=>hs;have fin:∀ {σ':St}{H':Hp}{v:V}{u:Ã},Inv (V10 CX P w K mg base N qual scope f cdv A outer s H E) [] σ' H' s'->RelV v u->Q v H'->CE outer P w H s Q u s' :=
  λ{σ' H' v u} J rv q=>⟨v,H',J.os,J.bare,J.base,J.hok,rv,q⟩
 cases fl with
 |ret u =>
  obtain⟨v,σ',H',J,rv,q⟩:=hs;exact fin J rv q
 |next =>
  obtain⟨σ',H',J,q⟩:=hs;exact fin (v:=V.non) (u:=è) J rfl q
 |brk =>
  obtain⟨_,_,_,q⟩:=hs;exact Æ5 q
 |cont =>
  obtain⟨_,_,_,q⟩:=hs;exact Æ5 q
section
variable {X:Cx}{x:Str}{p pos:Pos}{e:Ò}{es:List Ò}{t:TA}{id T:String}{r:List V->Hp->VK->Prop}
def tCB(r:List V->Hp->VK->Prop)(t:TA):TE:=λσ H Q=>t σ H λvs H1=>r vs H1 Q
theorem N20(hc:h00 X (.builtin id) r)(hg:Gl X x)(hm:X.mg x=none)(hv:î x=some (.builtin id))(ha:PA X (e::es) t)(hn:x≠"__name__":=by decide)(hdb:(x == ("__debug__":Str))=false:=by decide)
  (he:þ (e::es) X.env=(false,eval e X.env)::þ es X.env:=by rfl) (hpl:(Ó9 pos (þ es X.env)).any (·.1)=false:=by rfl):PE X (.Call (.Name x p) (e::es) [] pos) (tCB r t):=by
 intro pins s σ H Q I h;refine Ù8 (x00 I hg hm hv ?_ hn hdb);exact PyProof.Rows.callWith_builtin1 (thn (ha pos pins s σ H _ I h) λus s1 ⟨vs,H1,I1,r1,q1⟩=>hc pins s1 σ H1 vs us Q I1 r1 q1) he hpl
theorem w01(hc:h00 X (.type T) r)(hg:Gl X x)(hm:X.mg x=none)(hv:î x=some (.type T))(ha:PA X (e::es) t)(hn:x≠"__name__":=by decide)(hdb:(x == ("__debug__":Str))=false:=by decide)
  (he:þ (e::es) X.env=(false,eval e X.env)::þ es X.env:=by rfl) (hpl:(Ó9 pos (þ es X.env)).any (·.1)=false:=by rfl):PE X (.Call (.Name x p) (e::es) [] pos) (tCB r t):=by
 intro pins s σ H Q I h;refine Ù8 (x00 I hg hm hv ?_ hn hdb);exact À5 (thn (ha pos pins s σ H _ I h) λus s1 ⟨vs,H1,I1,r1,q1⟩=>hc pins s1 σ H1 vs us Q I1 r1 q1) he hpl
end
end L2
namespace HT
open PySem PyProof.Rows
theorem L91(A:ý)(s:Æ)(a:Int)(t:Tok)(c:Int)(u:Tok):∃ e,Õ6 A s (.int a t) (.int c u) e/\(e=true↔a=c) :=
 ⟨(a == c),Õ6.int_int a t c u,by simp⟩
theorem i61(A:ý)(s:Æ)(a:Int)(t:Tok)(c:Int)(u:Tok)(prog:ç)(w:ø)(E:Ã->Æ->Prop)(Q:Ã->Æ->Prop)(h:Q (.bool (decide (a < c))) s) :
  Ô (Û prog w) A (richCompare .Lt (.int a t) (.int c u)) Q E s :=
 (lt_int h:Ô (Û prog w) A (û .Lt (.int a t) (.int c u)) Q E s)
section
variable {prog:ç}{w:ø}{A:ý}{E:Ã->Æ->Prop}{s:Æ}
theorem c22{t b:È}{vs ws:List Ã}{Q:Ã->Æ->Prop}(ht:Ï1 s.heap t vs.toArray)(hb:Ï1 s.heap b ws.toArray)(hv:vs≠[])
  (h1:ws=[]->Q (.ref t) s) (h2:ws≠[]->Q (.ref s.heap.objs.size) { s with heap:=s.heap.push { cls:=.type "tuple",data:=.seq (vs++ws).toArray } })
  (hsz:vs.length + ws.length<=sizeLine):Ô (Û prog w) A (Ã2 .Add (.ref t) (.ref b)) Q E s:=by
 obtain⟨⟨cls,dd,data,sl⟩,ho,hc,n,hd⟩:=id ht;obtain⟨⟨cls2,dd2,data2,sl2⟩,ho2,hc2,n2,hd2⟩:=id hb;simp only at hc hd hc2 hd2;subst hc hd hc2 hd2;have e:vs.toArray++ws.toArray=(vs++ws).toArray:=by simp
 by_cases hw:ws=[]
 ·exact concat_meets ⟨_,ho,rfl⟩ ⟨_,ho2,rfl⟩ Ü7 seq_tuple_add Ð5 Ï6 (Î2 _ _)
   (tuple_addW1 t b vs.toArray ws.toArray n n2 dd dd2 sl sl2 (by simpa using hv) (by simp[hw])) ⟨ho,ho2,h1 hw⟩
 ·refine concat_meets ⟨_,ho,rfl⟩ ⟨_,ho2,rfl⟩ Ü7 seq_tuple_add Ð5 Ï6 (Î2 _ _)
   (tuple_addW2 t b vs.toArray ws.toArray n n2 dd dd2 sl sl2 (by simpa using hv) (by simpa using hw) (by rw[Ö,Ö];exact hsz)) ⟨ho,ho2,?_⟩
  rw[e];exact h2 hw
def sIx(n d:Nat):Option Int->Nat
 |none=>d|some v=>if v < 0 then(v + (n:Int)).toNat else min v.toNat n
theorem w11(n d k:Nat):sIx n d (some (k:Int))=min k n:=by
 show(if (k:Int) < 0 then((k:Int) + (n:Int)).toNat else min (k:Int).toNat n)=min k n;rw[if_neg ∅,Á3]
theorem t82(n d:Nat)(hd:d<=n)(o:Option Int):sIx n d o<=n:=by
 cases o with
 |none=>exact hd
 |some v =>
  show(if v < 0 then(v + (n:Int)).toNat else min v.toNat n)<=n;by_cases hv:v < 0
  ·rw[if_pos hv];omega
  ·rw[if_neg hv];exact Nat.min_le_right _ _
theorem w21(v:Int)(n d:Nat):(if v < 0 then max (v + (n:Int)) 0 else min v (n:Int))=((sIx n d (some v):Nat):Int):=by
 show(if v < 0 then max (v + (n:Int)) 0 else min v (n:Int))=(((if v < 0 then(v + (n:Int)).toNat else min v.toNat n):Nat):Int);by_cases hv:v < 0
 ·simp only[if_pos hv];omega
 ·simp only[if_neg hv];omega
theorem q41(lo hi:Option Int)(n:Nat):sliceAdjust lo hi 1 (n:Int)=(((sIx n 0 lo:Nat):Int),((sIx n n hi:Nat):Int)):=by
 have h1:¬ ((1:Int) < 0):=by omega
 unfold sliceAdjust;simp only[h1,if_false];refine Prod.ext ?_ ?_
 ·cases lo with
  |none=>rfl|some v=>exact w21 v n 0
 ·cases hi with
  |none=>rfl|some v=>exact w21 v n n
theorem q51(i j:Nat):Ô3 (i:Int) (j:Int) 1=j - i:=by
 unfold Ô3;have h1:(1:Int) > 0:=by omega
 simp only[h1,if_true,Int.ediv_one];split <;> omega
theorem L20{v:Ã}{o:Option Int}{Q:Option Int->Æ->Prop}(p:Ø0 v o)(h:Q o s):Ô (Û prog w) A (Å6.Slice.slicePartIndex v) Q E s:=by
 cases p with
 |none=>exact slicePart_none h|int i t=>exact slicePart_int h
theorem p60{sl:È}{vl vu:Ã}{lo hi:Option Int}{n:Nat}{Q:Int × Int × Nat->Æ->Prop}(hs:s.heap.IsSliceOf sl vl vu .none)(pl:Ø0 vl lo)(pu:Ø0 vu hi)
  (h:Q (((sIx n 0 lo:Nat):Int),1,sIx n n hi - sIx n 0 lo) s):Ô (Û prog w) A (sliceApplied (.ref sl) (pure (n:Int))) Q E s:=by
 obtain⟨os,hos,hcs,hds⟩:=id hs;unfold sliceApplied Å6.Slice.sliceFields;refine Á (Á (Â6 hos hds (x:=vl) rfl (Á (Â6 hos hds (x:=vu) rfl (Á (Â6 hos hds (x:=.none) rfl (Î ?_)))))));refine Á (slicePart_none ?_);show Ô _ _ (if ((1:Int) == 0)=true then _ else _) _ _ s;rw[if_neg (-0)]
 refine Á (L20 pl (Á (L20 pu (Á (Î ?_)))));show Ô _ _ (match sliceAdjust lo hi 1 (n:Int) with | (lo,hi)=>pure (lo,(1:Int),Ô3 lo hi 1)) _ _ s
 rw[q41 lo hi n];show Ô _ _ (pure (((sIx n 0 lo:Nat):Int),(1:Int),Ô3 ((sIx n 0 lo:Nat):Int) ((sIx n n hi:Nat):Int) 1)) _ _ s;rw[q51];exact Î h
theorem M01(xs:Array Ã)(i k:Nat):((Ø k).filterMap λ(m:Nat)=>xs[((i:Int) + (m:Int) * 1).toNat]?).toArray=((xs.toList.drop i).take k).toArray:=by
 have e:(λ(m:Nat)=>xs[((i:Int) + (m:Int) * 1).toNat]?)=λm=>xs[i + m]?:=by
  funext m
  have:((i:Int) + (m:Int) * 1).toNat=i + m:=by omega
  rw[this]
 rw[e];have:=pick_run xs i k;rw[List.filterMap_map] at this;have e2:((λx=>xs[x]?) ∘ λx=>i + x)=λm=>xs[i + m]?:=rfl;rw[e2] at this;rw[this]
theorem A30{t sl:È}{items:Array Ã}{vl vu:Ã}{lo hi:Option Int}{Q:Ã->Æ->Prop}(ht:Ï1 s.heap t items)(hs:s.heap.IsSliceOf sl vl vu .none)(pl:Ø0 vl lo)(pu:Ø0 vu hi)
  (hw:¬ (sIx items.size 0 lo=0/\sIx items.size items.size hi=items.size))
  (h:Q (.ref s.heap.objs.size) { s with heap:=s.heap.push { cls:=.type "tuple",data:=.seq ((items.toList.drop (sIx items.size 0 lo)).take (sIx items.size items.size hi - sIx items.size 0 lo)).toArray } })
  (hsz:items.size<=sizeLine):Ô (Û prog w) A (Ø4 (.ref t) (.ref sl)) Q E s:=by
 have htake:sizeOk (.seq ((items.toList.drop (sIx items.size 0 lo)).take (sIx items.size items.size hi - sIx items.size 0 lo)).toArray):=by
  show((items.toList.drop (sIx items.size 0 lo)).take (sIx items.size items.size hi - sIx items.size 0 lo)).toArray.size<=sizeLine;rw[Ö,Å3,Ë0,Ê1];omega
 have hj:sIx items.size items.size hi<=items.size:=t82 _ _ (Ê _) hi;obtain⟨os,hos,hcs,hds⟩:=id hs;have hTs:s.TypeIs (.ref sl) "slice":=⟨os,hos,hcs⟩;unfold Ø4
 try with_reducible refine Ê8 ?_
 first | refine Á (Î ?_) | skip
 refine Á (wpAny_sequenceKey ht.typeIs (-0) ?_)
 refine Á (Å1 (name:=Â2 "__getitem__") ht.typeIs Â5
  (Ç6 Â5 ht.typeIs entry_tuple_getitem ?_ (args_tuple_getitem _ _)))
 show Ô _ _ (tupleItemsOf (.ref t) >>= _) _ _ s;refine Á (tupleItemsOf_ ht ?_);refine Á (Ï2 hTs ?_);rw[if_pos (-0)]
 refine Á (p60 hs pl pu ?_);have hno:¬ ((((sIx items.size 0 lo:Nat):Int) == 0&&(1:Int) == 1&&(sIx items.size items.size hi - sIx items.size 0 lo) == items.size)=true):=by
  intro q;rw[À,À] at q;have q1:((sIx items.size 0 lo:Nat):Int)=0:=eq_of_beq q.1.1;have q2:sIx items.size items.size hi - sIx items.size 0 lo=items.size:=eq_of_beq q.2;exact hw ⟨by omega,by omega⟩
 show Ô _ _ (if (((sIx items.size 0 lo:Nat):Int) == 0&&(1:Int) == 1&&(sIx items.size items.size hi - sIx items.size 0 lo) == items.size)=true then _ else _) _ _ s;rw[if_neg hno,M01]
 first
  |exact Á (m:=Ì1 _) (À2 (Î ⟨_,rfl,Î h⟩) htake)
  |exact Á (m:=Ì1 _) (À2 (Á (Î (Î ⟨_,rfl,Î h⟩))) htake)
  |exact Á (Á (m:=Ì1 _) (À2 (Î (Î ⟨_,rfl,Î h⟩)) htake))
  |exact Á (Á (m:=Ì1 _) (À2 (Î ⟨_,rfl,Î h⟩) htake))
end
end HT
namespace L2
open PySem PySem.Spec PyProof.Rows
abbrev TO:=St->Hp->(Option Int->Hp->Prop)->Prop
def PO(X:Cx)(e:Option Ò)(t:TO):Prop :=
 ∀ (pins:List (È × Obj)) (s:Æ) (σ:St) (H:Hp) (Q:Option Int->Hp->Prop),Inv X pins σ H s->t σ H Q ->
  Ô (Û X.prog X.w) X.A (evalPart e X.env) (λu s'=>∃ o H',Inv X pins σ H' s'/\Ø0 u o/\Q o H') X.xe s
def c32:TO:=λ_ H Q=>Q none H
def J12(t:TE):TO:=λσ H Q=>t σ H λx H1=>∃ i,x=.int i/\Q (some i) H1
theorem intsAre_of{ns:List Int}:∀ {us:List Ã},Vals (ns.map V.int) us->Ë3 us ns:=by
 induction ns with
 |nil=>intro us r;rw[map_nil] at r;cases r;exact .nil
 |cons n ns ih =>
  intro us r;rw[È1] at r;cases r with
  |cons r1 r2 =>
   obtain⟨t,e⟩:=r1;subst e;exact .cons n t (ih r2)
section
variable {X:Cx}{e:Ò}{te:TE}{lo hi:Option Ò}{tl th:TO}{pos p2:Pos}
theorem c42:PO X none c32:=by
 intro pins s σ H Q I h;rw[evalPart_none];exact Î ⟨none,H,I,.none,h⟩
theorem c52(h:PE X e te):PO X (some e) (J12 te):=by
 intro pins s σ H Q I hw;rw[evalPart_some];refine thn (h pins s σ H _ I hw) λu s1 ⟨x,H1,I1,r1,q1⟩=>?_;obtain⟨i,rfl,q⟩:=q1;obtain⟨t,rfl⟩:=r1;exact⟨some i,H1,I1,.int i t,q⟩
def SlR(X:Cx)(r:V->Option Int->Option Int->Hp->VK->Prop):Prop :=
 ∀ (pins:List (È × Obj)) (s:Æ) (σ:St) (H:Hp) (x:V) (v vl vu:Ã) (lo hi:Option Int) (sl:È) (Q:VK),Inv X pins σ H s->RelV x v->s.heap.IsSliceOf sl vl vu .none->Ø0 vl lo->Ø0 vu hi->r x lo hi H Q ->
  ∃ T id,typeLookup (.type T) "__getitem__"=pure (some (.builtin id))/\s.TypeIs v T/\Ô (Û X.prog X.w) X.A (Ø4 v (.ref sl)) (EP X pins σ Q) X.xe s
def tSl(r:V->Option Int->Option Int->Hp->VK->Prop)(te:TE)(tl th:TO):TE:=λσ H Q=>te σ H λx H1=>tl σ H1 λl H2=>th σ H2 λu H3=>r x l u H3 Q
theorem M11{r:V->Option Int->Option Int->Hp->VK->Prop}(hr:SlR X r)(he:PE X e te)(hl:PO X lo tl)(hu:PO X hi th):PE X (.Subscript e (.Slice lo hi none p2) pos) (tSl r te tl th):=by
 intro pins s σ H Q I h;refine Subscript_ (thn (he pins s σ H _ I h) λv s1 ⟨x,H1,I1,r1,q1⟩=>?_);refine wpAny_Slice (thn (hl pins s1 σ H1 _ I1 q1) λvl s2 ⟨l,H2,I2,pl,q2⟩=>thn (hu pins s2 σ H2 _ I2 q2) λvu s3 ⟨u,H3,I3,pu,q3⟩=>?_);rw[evalPart_none];refine Î ?_;have I4:Inv X pins σ H3 { s3 with heap:=s3.heap.push { cls:=.type "slice",data:=.fields #[vl,vu,.none] } }:=I3.kept (t':=s3.toks) λb ob q=>Ä _ q;obtain⟨T,id,hT,ht,hg⟩:=hr pins { s3 with heap:=s3.heap.push { cls:=.type "slice",data:=.fields #[vl,vu,.none] } } σ H3 x v vl vu l u s3.heap.objs.size Q I4 r1 (ò.IsSliceOf.new ..) pl pu q3;show Ô (Û X.prog X.w) X.A (subscriptTail e (.Slice lo hi none p2) v (.ref s3.heap.objs.size)) (EP X pins σ Q) X.xe { s3 with heap:=s3.heap.push { cls:=.type "slice",data:=.fields #[vl,vu,.none] } };exact tail_any (ops:=[.ref s3.heap.objs.size,v]) ht hT hg (by with_unfolding_all rfl)
def M21(xs:List V)(lo hi:Option Int):List V:=(xs.drop (HT.sIx xs.length 0 lo)).take (HT.sIx xs.length xs.length hi - HT.sIx xs.length 0 lo)
theorem F70(xs:List V)(lo hi:Option Int):(M21 xs lo hi).length<=xs.length:=by
 unfold M21;rw[Å3,Ë0];omega
theorem Vals.N30{xs:List V}{us:List Ã}(r:Vals xs us):us=[]↔xs=[]:=by
 cases r with
 |nil=>simp|cons _ _=>simp
end
def ixN(n:Nat)(i:Int):Option Nat:=if 0<=i then(if i < n then some i.toNat else none) else if -(n:Int)<=i then some (i + n).toNat else none
def atI{α:Type}(xs:List α)(i:Int):Option α:=(ixN xs.length i).bind λj=>xs[j]?
theorem w31{n:Nat}{i:Int}{j:Nat}(h:ixN n i=some j):seqIndex? i n=some j/\j < n/\-(n:Int)<=i/\i < n:=by
 unfold ixN at h;by_cases h0:0<=i
 ·rw[if_pos h0] at h;by_cases h1:i < n
  ·rw[if_pos h1] at h;have e:i.toNat=j:=Á5 h;exact⟨by rw[Ý1 h0 h1,e],by omega,by omega,h1⟩
  ·rw[if_neg h1] at h;cases h
 ·rw[if_neg h0] at h;by_cases h1:-(n:Int)<=i
  ·rw[if_pos h1] at h;have e:(i + n).toNat=j:=Á5 h;exact⟨by rw[seqIndex_neg ∅ h1,e],by omega,h1,by omega⟩
  ·rw[if_neg h1] at h;cases h
theorem w41{α:Type}{xs:List α}{i:Int}{v:α}(h:atI xs i=some v):∃ j,seqIndex? i xs.length=some j/\xs[j]?=some v/\j < xs.length/\-(xs.length:Int)<=i/\i < xs.length:=by
 unfold atI at h;cases e:ixN xs.length i with
 |none=>rw[e] at h;cases h
 |some j =>
  rw[e] at h;obtain⟨h1,h2,h3,h4⟩:=w31 e;exact⟨j,h1,h,h2,h3,h4⟩
theorem c01{α:Type}{xs:List α}{j:Nat}{v:α}(h:xs[j]?=some v):atI xs (j:Int)=some v:=by
 have hj:j < xs.length:=(Þ.mp h).1;have e:ixN xs.length (j:Int)=some j:=by
  unfold ixN;rw[if_pos ∅,if_pos ∅];simp
 unfold atI;rw[e];exact h
def w51(b:Ò):Prop:=∀ o i,subscripted b false o i=operate [o,i] (Ø4 o i)
def IxR(X:Cx)(r:R2):Prop :=
 ∀ (value slice:Ò) (pins:List (È × Obj)) (s:Æ) (σ:St) (H:Hp) (x y:V) (v u:Ã) (Q:VK),Inv X pins σ H s->RelV x v->RelV y u->r x y H Q ->
  subscripted slice false v u=operate [v,u] (Ø4 v u)->Ô (Û X.prog X.w) X.A (subscriptTail value slice v u) (EP X pins σ Q) X.xe s
def MtR(X:Cx)(id:String)(r:V->List V->Hp->VK->Prop):Prop :=
 ∀ (pins:List (È × Obj)) (s:Æ) (σ:St) (H:Hp) (x:V) (xs:List V) (v:Ã) (us:List Ã) (Q:VK),Inv X pins σ H s->RelV x v->Vals xs us->r x xs H Q ->
  Ô (Û X.prog X.w) X.A (call (.builtin id) (v::us)) (EP X pins σ Q) X.xe s
section
variable {X:Cx}{a b:Ò}{ta tb:TE}{pos:Pos}
theorem t92{r:R2}(hr:IxR X r)(ha:PE X a ta)(hb:PE X b tb)(hs:w51 b):PE X (.Subscript a b pos) (tOp r ta tb):=by
 intro pins s σ H Q I h;exact Subscript_ (I12 ha hb I h λv u s2 x y H2 I2 rx ry q=>hr a b pins s2 σ H2 x y v u Q I2 rx ry q (hs _ _))
def V92(K:Â):R2:=λx y H Q=>∃ p xs i v,x=.ref p/\y=.int i/\SqL K H p xs/\atI xs i=some v/\Q v H
def W02(K:Â):R2:=λx y H Q=>∃ p xs i v,x=.ref p/\y=.int i/\SqT K H p xs/\atI xs i=some v/\Q v H
theorem w61:IxR X (V92 X.K):=by
 intro value slice pins s σ H x y v u Q I rx ry h hs;obtain⟨p,xs,i,z,rfl,rfl,hq,he,q⟩:=h;cases rx;obtain⟨t,rfl⟩:=ry;obtain⟨its,r,pl,hz⟩:=I.list hq;obtain⟨j,h1,h2,h3,h4,h5⟩:=w41 he;obtain⟨w,ew,rw'⟩:=r.get h2;have hl:=r.length;have hn:=i41;have fin:EP X pins σ Q w s:=⟨z,H,I,rw',q⟩;by_cases h0:0<=i
 ·have hj:i.toNat=j:=by
   rw[Ý1 h0 h5] at h1;exact Á5 h1
  exact item_listR pl.isList h0 ∅ (by rw[hj];simpa using ew) fin hs
 ·have hj:(i + (its.toArray.size:Int)).toNat=j:=by
   rw[seqIndex_neg ∅ h4] at h1
   rw[Ö,← hl];exact Á5 h1
  exact subscriptTail_builtinR (x:=w) pl.isList.typeIs slot_list_getitem.lookup
   (wpAny_getItem_list_neg (Q:=λr s'=>r=w/\EP X pins σ Q r s') pl.isList ∅ (by rw[Ö] <;> omega) ∅ (by rw[hj];simpa using ew) ⟨rfl,fin⟩) hs
theorem u02:IxR X (W02 X.K):=by
 intro value slice pins s σ H x y v u Q I rx ry h hs;obtain⟨p,xs,i,z,rfl,rfl,hq,he,q⟩:=h;cases rx;obtain⟨t,rfl⟩:=ry;obtain⟨its,r,pl,hz⟩:=I.tuple hq;obtain⟨j,h1,h2,h3,h4,h5⟩:=w41 he;obtain⟨w,ew,rw'⟩:=r.get h2;have hl:=r.length;have hn:=i41;have fin:EP X pins σ Q w s:=⟨z,H,I,rw',q⟩;exact subscriptTail_builtinR (x:=w) pl.typeIs slot_tuple_getitem.lookup
  (getItem_tuple (j:=j) (Q:=λr s'=>r=w/\EP X pins σ Q r s') pl ∅ ∅ (by rw[Ö,← hl];exact h1) (by simpa using ew) ⟨rfl,fin⟩) hs
theorem q61(its:List Ã)(n j:Nat)(u:Ã):Á0 (·.setIfInBounds j u) { cls:=.type "list",data:=.seq its.toArray n }={ cls:=.type "list",data:=.seq (its.set j u).toArray n }:=by
 simp[Á0]
theorem Inv.lst{pins:List (È × Obj)}{σ:St}{H:Hp}{s:Æ}{p:È}{xs:List V}(I:Inv X pins σ H s)(h:H p=some (.lst xs)) :
  ∃ (its:List Ã) (n:Nat),Vals xs its/\s.heap.get? p=some { cls:=.type "list",data:=.seq its.toArray n }/\xs.length<=sizeLine:=by
 obtain⟨z,its,n,r,e⟩:=I.hok p _ h;exact⟨its,n,r,e,z⟩
theorem Inv.u12{pins:List (È × Obj)}{σ:St}{H:Hp}{s:Æ}{p:È}{xs ys:List V}{its its':List Ã}{n n':Nat}{f:Obj->Obj}(I:Inv X pins σ H s)(h:H p=some (.lst xs))
  (ho:s.heap.get? p=some { cls:=.type "list",data:=.seq its.toArray n }) (hf:f { cls:=.type "list",data:=.seq its.toArray n }={ cls:=.type "list",data:=.seq its'.toArray n' }) (r:Vals ys its') (hz:ys.length<=sizeLine) (t:Nat) :
  Inv X pins σ (upd H p (.lst ys)) { s with heap:=s.heap.update p f,toks:=t }:=by
 have e:(s.heap.update p f).get? p=some { cls:=.type "list",data:=.seq its'.toArray n' }:=by
  rw[Þ5 f ho (by rw[hf] <;> rfl),hf]
 refine I.write (x:=p) (e:=p) (by rw[h];trivial) (.inl rfl) (λb u hb q=>(Ý9 _ _ (Â4 hb)).trans q) ⟨_,e⟩ ?_
 exact⟨hz,its',n',r,e⟩
def J22:V->V->V->Hp->(Hp->Prop)->Prop:=λo i v H Q=>∃ p xs k j,o=.ref p/\i=.int k/\H p=some (.lst xs)/\ixN xs.length k=some j/\Q (upd H p (.lst (xs.set j v)))
theorem set_list:R42 X J22:=by
 intro pins s σ H o i v ov iv u Q I ro ri rv h;obtain⟨p,xs,k,j,rfl,rfl,hp,hj,q⟩:=h;cases ro;obtain⟨t,rfl⟩:=ri;obtain⟨its,n,r,ho,hz⟩:=I.lst hp;obtain⟨h1,h2,h3,h4⟩:=w31 hj;have hl:=r.length;have hn:=i41;have I':Inv X pins σ (upd H p (.lst (xs.set j v))) { s with heap:=s.heap.update p (Á0 (·.setIfInBounds j u)) } :=
  I.u12 hp ho (q61 its n j u) (r.set rv j) (by rw[Å0];exact hz) s.toks
 by_cases h0:0<=k
 ·have hk:k.toNat=j:=by
   rw[Ý1 h0 h4] at h1;exact Á5 h1
  exact PySem.W.ki_setAt ho h0 ∅ (by rw[Ö,← hl];exact h4) (by rw[hk];exact⟨_,I',q⟩)
 ·have hk:(k + (its.toArray.size:Int)).toNat=j:=by
   rw[seqIndex_neg ∅ h3] at h1
   rw[Ö,← hl];exact Á5 h1
  exact PySem.W.ki_setBack ho ∅ (by rw[Ö,← hl];exact h3) ∅ (by rw[hk];exact⟨_,I',q⟩)
theorem V20(lo hi:Option Int)(n:Nat):(Í4 lo hi none n).1=((HT.sIx n 0 lo:Nat):Int)/\(Í4 lo hi none n).2.1=((HT.sIx n n hi:Nat):Int)/\(Í4 lo hi none n).2.2=1:=by
 refine⟨?_,?_,rfl⟩
 ·cases lo with
  |none=>simp[Í4,HT.sIx]
  |some i =>
   simp only[Í4,HT.sIx,getD_none,show(1:Int) > 0 by decide,if_true]
   by_cases h:i < 0
   ·simp only[h,if_true] <;> omega
   ·simp only[h,if_false] <;> omega
 ·cases hi with
  |none=>simp[Í4,HT.sIx]
  |some i =>
   simp only[Í4,HT.sIx,getD_none,show(1:Int) > 0 by decide,if_true]
   by_cases h:i < 0
   ·simp only[h,if_true] <;> omega
   ·simp only[h,if_false] <;> omega
theorem N40(its:List Ã)(lo hi:Option Int):slicePick its.toArray lo hi none=((its.drop (HT.sIx its.length 0 lo)).take (HT.sIx its.length its.length hi - HT.sIx its.length 0 lo)).toArray:=by
 obtain⟨h1,h2,h3⟩:=V20 lo hi its.toArray.size;unfold slicePick;rw[h1,h2,h3];simp only[sliceRange_one,pick_run,Ö] <;> rfl
def W12(K:Â):V->Option Int->Option Int->Hp->VK->Prop:=λx lo hi H Q=>∃ a xs,x=.ref a/\SqL K H a xs/\∀ p,H p=none->Q (.ref p) (upd H p (.lst (M21 xs lo hi)))
theorem c62:SlR X (W12 X.K):=by
 intro pins s σ H x v vl vu lo hi sl Q I rx hs pl pu h;obtain⟨a,xs,rfl,hx,q⟩:=h;cases rx;obtain⟨its,r,ht,hz⟩:=I.list hx;have hlen:=r.length;refine⟨"list",_,slot_list_getitem.lookup,ht.isList.typeIs,?_⟩;refine wpAny_getItem_list_slice ht.isList hs pl pu .none (by simp) ?_ (by rw[Ö] <;> omega)
 rw[N40,← hlen];refine⟨.ref s.heap.objs.size,_,I.laid (t':=s.toks) (o:=.lst (M21 xs lo hi)) (λb ob q=>Ä _ q) (Ê _) ?_,rfl,q _ (I.hok.fresh (Ê _))⟩;exact⟨Ù (F70 xs lo hi) hz,_,0,(r.drop (HT.sIx xs.length 0 lo)).take (HT.sIx xs.length xs.length hi - HT.sIx xs.length 0 lo),Ð _ rfl⟩
theorem V30:h00 X (.builtin "len") (λxs H Q=>∃ p ys,xs=[.ref p]/\(SqL X.K H p ys∨SqT X.K H p ys)/\Q (.int ys.length) H):=by
 intro pins s σ H xs us Q I r h;obtain⟨p,ys,rfl,hq,q⟩:=h;obtain⟨u,rfl,rx⟩:=vals1 r;cases rx;have hn:=i41;rcases hq with hq | hq
 ·obtain⟨its,r',pl,hz⟩:=I.list hq;have hlen:=r'.length;exact Calls.call_len_list pl.isList (by simp only[Ö] <;> omega) ⟨.int ys.length,H,I.tok _,⟨s.toks + 1,by rw[Ö,hlen]⟩,q⟩
 ·obtain⟨its,r',pl,hz⟩:=I.tuple hq;have hlen:=r'.length;exact len_tuple pl (by simp only[Ö] <;> omega) ⟨.int ys.length,H,I.tok _,⟨s.toks + 1,by rw[Ö,hlen]⟩,q⟩
theorem V40:h00 X (.type "list") (λxs H Q=>∃ p ys,xs=[.ref p]/\(SqL X.K H p ys∨SqT X.K H p ys)/\∀ l,H l=none->Q (.ref l) (upd H l (.lst ys))):=by
 intro pins s σ H xs us Q I r h;obtain⟨p,ys,rfl,hq,q⟩:=h;obtain⟨u,rfl,rx⟩:=vals1 r;cases rx;have fin:∀ (its:List Ã),Vals ys its->ys.length<=sizeLine->∀ (h':ò) (c':Nat),(∀ b o',s.heap.get? b=some o'->h'.get? b=some o') ->
   h'.get? s.heap.objs.size=some { cls:=.type "list",dict:=none,data:=.seq its.toArray c',slots:=#[] }->EP X pins σ Q (.ref s.heap.objs.size) { s with heap:=h' }:=λits r' hz h' c' kp e =>
  ⟨.ref s.heap.objs.size,_,I.laid (t':=s.toks) kp (Ê _) (show l20 X.prog X.w _ h' _ (.lst ys) from⟨hz,its,c',r',e⟩),rfl,q _ (I.hok.fresh (Ê _))⟩
 rcases hq with hq | hq
 ·obtain⟨its,r',pl,hz⟩:=I.list hq;have hlen:=r'.length;obtain⟨o,ho,hc,n,hd⟩:=pl.isList;exact call_list_seq p (.inl rfl) ho hc hd (λh' c' kp e=>fin its r' hz h' c' kp e) (by simp only[Ö] <;> omega)
 ·obtain⟨its,r',pl,hz⟩:=I.tuple hq;have hlen:=r'.length;obtain⟨o,ho,hc,n,hd⟩:=pl;exact call_list_seq p (.inr rfl) ho hc hd (λh' c' kp e=>fin its r' hz h' c' kp e) (by simp only[Ö] <;> omega)
theorem N50:h00 X (.type "tuple") (λxs H Q=>∃ p ys,xs=[.ref p]/\((SqL X.K H p ys/\∀ l,H l=none->Q (.ref l) (upd H l (.tup ys)))∨(SqT X.K H p ys/\Q (.ref p) H))):=by
 intro pins s σ H xs us Q I r h;obtain⟨p,ys,rfl,h⟩:=h;obtain⟨u,rfl,rx⟩:=vals1 r;cases rx;rcases h with ⟨hq,q⟩ | ⟨hq,q⟩
 ·obtain⟨its,r',pl,hz⟩:=I.list hq;have hlen:=r'.length;refine call_tuple_list pl.isList (λh' kp=>?_) (by simp only[Ö] <;> omega)
  have I1:Inv X pins σ H { s with heap:=h' }:=I.kept (t':=s.toks) kp;have I2:Inv X pins σ (upd H h'.objs.size (.tup ys)) { s with heap:=h'.push { cls:=.type "tuple",data:=.seq its.toArray } } :=
   I1.laid (t':=s.toks) (λb o e=>Ä _ e) (Ê _) (show l20 X.prog X.w _ _ _ (.tup ys) from⟨hz,its,r',Ï1.new _ _⟩)
  exact⟨.ref h'.objs.size,_,I2,rfl,q _ (I1.hok.fresh (Ê _))⟩
 ·obtain⟨its,r',pl,hz⟩:=I.tuple hq;exact call_tuple_same pl ⟨.ref p,H,I,rfl,q⟩
def tyV(K:Â)(T:String)(x:V)(H:Hp):Prop:=match x with
 |.str _=>T="str"|.int _=>T="int"
 |.ref p=>(T="list"/\∃ xs,SqL K H p xs)∨(T="tuple"/\∃ o,K.lookup p=some o/\o.cls=.type "tuple"/\o.dict=none) ∨
   (T="dict"/\((∃ kvs,H p=some (.dK kvs))∨∃ kvs,H p=some (.dT kvs)))∨(T="set"/\∃ S n,H p=some (.set S n))
 |_=>False
theorem u22{pins:List (È × Obj)}{σ:St}{H:Hp}{s:Æ}{T:String}{x:V}{v:Ã}(I:Inv X pins σ H s)(r:RelV x v)(ty:tyV X.K T x H) :
  s.TypeIs v T/\∀ a,v=.ref a->∃ ob,s.heap.get? a=some ob/\ob.dict=none:=by
 cases x with
 |str z =>
  obtain⟨t,rfl⟩:=r;cases (show T="str" from ty);exact⟨typeIs_str s z t,λ_ e=>nomatch e⟩
 |int i =>
  obtain⟨t,rfl⟩:=r;cases (show T="int" from ty);exact⟨Ù9 s i t,λ_ e=>nomatch e⟩
 |ref p =>
  cases r;rcases ty with ⟨rfl,xs,hq⟩ | ⟨rfl,o,hk,hc,hd⟩ | ⟨rfl,hk⟩ | ⟨rfl,S,n,hk⟩
  ·obtain⟨its,_,pl,_⟩:=I.list hq;refine⟨pl.isList.typeIs,λa e=>?_⟩;cases e;obtain⟨o,n,e,c,hd,_⟩:=pl;exact⟨o,e,hd⟩
  ·refine⟨⟨o,I.kIn p o hk,hc⟩,λa e=>?_⟩;cases e;exact⟨o,I.kIn _ o hk,hd⟩
  ·have z:∃ o,s.heap.get? p=some o/\o.ExactDict:=by
    rcases hk with ⟨kvs,hk⟩ | ⟨kvs,hk⟩
    ·obtain⟨_,_,_,_,o,_,_,e,ex,_⟩:=I.hok p _ hk;exact⟨o,e,ex⟩
    ·obtain⟨_,_,_,_,o,_,_,e,ex,_⟩:=I.hok p _ hk;exact⟨o,e,ex⟩
   obtain⟨o,e,ex⟩:=z;refine⟨⟨o,e,ex.1⟩,λa e2=>?_⟩;cases e2;exact⟨o,e,ex.2.1⟩
  ·obtain⟨o,_,_,_,e,ex,_⟩:=I.hok p _ hk;refine⟨⟨o,e,ex.1⟩,λa e2=>?_⟩;cases e2;exact⟨o,e,ex.2.1⟩
 |_=>exact Æ5 ty
def c13(K:Â)(T:String)(r:V->List V->Hp->VK->Prop)(to:TE):TE:=λσ H Q=>to σ H λx H1=>tyV K T x H1/\r x [] H1 Q
def tBM(K:Â)(T:String)(r:V->List V->Hp->VK->Prop)(to:TE)(t:TA):TE:=λσ H Q=>to σ H λx H1=>tyV K T x H1/\t σ H1 λxs H2=>r x xs H2 Q
variable {o e:Ò}{es:List Ò}{to:TE}{t:TA}{name:Str}{apos cpos:Pos}{T id:String}{r:V->List V->Hp->VK->Prop}
theorem c72(pa:PlainAttrs T)(slot:Slot T name id)(hty:typeOf (.builtin id)=pure (.type "method_descriptor"))(hm:MtR X id r)(ho:PE X o to)(ha:PA X (e::es) t)
  (hbase:attributeBase o name X.env (eval o X.env)=eval o X.env:=by rfl)
  (hfew:((Ó9 cpos (þ (e::es) X.env)).all (λx=>!x.1)&&(backToKw cpos (keywordEach [] X.env)).all (λx=>x.1.isSome)
   &&decide ((e::es).length + ([]:List Keyword).length + (if ([]:List Keyword).isEmpty then 0 else 1) < 30))=true:=by rfl)
  (hline:(apos.endLine == cpos.line)=true:=by rfl) (hs:þ (e::es) X.env=(false,eval e X.env)::þ es X.env:=by rfl) (hplain:(Ó9 cpos (þ es X.env)).any (·.1)=false:=by rfl) :
  PE X (.Call (.Attribute o name apos) (e::es) [] cpos) (tBM X.K T r to t):=by
 intro pins s σ H Q I h;refine wpAny_Call_method_late hbase hfew hline rfl (thn (ho pins s σ H _ I h) λv s1 ⟨x,H1,I1,r1,ty,q1⟩=>?_);obtain⟨h1,h2⟩:=u22 I1 r1 ty;refine⟨T,id,pa,slot,hty,h1,h2,?_⟩;have hA:=ha cpos pins s1 σ H1 _ I1 q1;rw[hs] at hA ⊢;refine Calls.callWith_builtin (by show(false || (Ó9 cpos (þ es X.env)).any (·.1))=false;rw[hplain] <;> rfl) (Þ6 ?_)
 exact thn hA λus s2 ⟨vs,H2,I2,r2,q2⟩=>hm pins s2 σ H2 x vs v us Q I2 r1 r2 q2
end
def MtM(X:Cx)(id:String)(r:V->List V->Hp->VK->Prop):Prop :=
 ∀ (pins:List (È × Obj)) (s:Æ) (σ:St) (H:Hp) (x:V) (xs:List V) (v:Ã) (us:List Ã) (Q:VK),Inv X pins σ H s->RelV x v->Vals xs us->r x xs H Q ->
  Ô (Û X.prog X.w) X.A (call (.builtin id) (v::us)) (EP X pins σ Q) X.xe s
theorem Vals.one:∀ {x:V}{us:List Ã},Vals [x] us->∃ u,us=[u]/\RelV x u
 |_,_,.cons r .nil=>⟨_,rfl,r⟩
theorem Vals.eraseIdx:∀ {xs:List V}{us:List Ã} (i:Nat),Vals xs us->Vals (xs.eraseIdx i) (us.eraseIdx i)
 |_,_,_,.nil=>.nil|_,_,0,.cons _ t=>t|_,_,i + 1,.cons r t=>.cons r (Vals.eraseIdx i t)
theorem Vals.reverse{xs:List V}{us:List Ã}(h:Vals xs us):Vals xs.reverse us.reverse:=by
 induction h with
 |nil=>exact .nil|cons r t ih=>rw[Ò3,Ò3];exact Vals.append ih (.cons r .nil)
theorem Vals.rep{xs:List V}{us:List Ã}(h:Vals xs us):∀ k:Nat,Vals (í k xs).flatten (í k us).flatten
 |0=>.nil
 |k + 1=>by
  rw[Ç1,Ç1,Ë8,Ë8];exact Vals.append h (Vals.rep h k)
theorem V50{α:Type}:∀ (l:List α) (i:Nat),(l.eraseIdx i).length<=l.length
 |[],_=>Ê _|_::_,0=>le_succ _|_::r,i + 1=>Ú3 (V50 r i)
theorem foldl_rep(its:List Ã):∀ (k:Nat) (acc:List Ã),
  foldl (λx1 x2=>x1++x2) acc.toArray (í k its.toArray)=(acc++(í k its).flatten).toArray
 |0,acc=>by simp
 |k + 1,acc=>by
  have e:acc.toArray++its.toArray=(acc++its).toArray:=by simp
  have e2:(acc++its)++(í k its).flatten=acc++(í (k + 1) its).flatten:=by
   rw[Ç1,Ë8,Ä1]
  rw[← e2,← foldl_rep its k (acc++its),← e,Ç1,Ê6]
section
variable {X:Cx}{pins:List (È × Obj)}{σ:St}{H:Hp}{s:Æ}{l b:È}{xs ys zs:List V}
theorem Inv.F92{its its':List Ã}{n:Nat}{f:Array Ã->Array Ã}{t':Nat}(I:Inv X pins σ H s)(hH:H l=some (.lst xs))
  (e:s.heap.get? l=some { cls:=.type "list",data:=.seq its.toArray n }) (hf:f its.toArray=its'.toArray) (hv:Vals ys its') (hz:ys.length<=sizeLine) :
  Inv X pins σ (upd H l (.lst ys)) { s with heap:=s.heap.update l (Á0 f),toks:=t' }:=by
 have q:=PySem.IsL.update e f;rw[hf] at q;refine I.write (x:=l) (e:=l) (by rw[hH];exact trivial) (.inl rfl) (λb' u hb hu=>(Ý9 s.heap (Á0 f) (Â4 hb)).trans hu) ⟨_,q⟩ ?_
 exact⟨hz,its',_,hv,q⟩
theorem Inv.R92{its:List Ã}{t':Nat}(I:Inv X pins σ H s)(hv:Vals ys its)(hz:ys.length<=sizeLine) :
  Inv X pins σ (upd H s.heap.objs.size (.lst ys)) { s with heap:=s.heap.push { cls:=.type "list",data:=.seq its.toArray },toks:=t' } :=
 I.laid (λ_ _ q=>Ä _ q) (Ê _) ⟨hz,its,0,hv,Ð _ rfl⟩
theorem Inv.fresh(I:Inv X pins σ H s):H s.heap.objs.size=none:=I.hok.fresh (Ê _)
theorem Inv.J32(I:Inv X pins σ H s)(hH:H l=some (.lst xs)):xs.length<=sizeLine/\∃ (its:List Ã) (n:Nat),Vals xs its/\xs.length=its.length/\s.heap.get? l=some { cls:=.type "list",data:=.seq its.toArray n }:=by
 obtain⟨z,its,n,r,e⟩:=I.hok l _ hH;exact⟨z,its,n,r,r.length,e⟩
theorem M31{n:Nat}(h:n<=sizeLine):Í1 n=false:=by
 unfold Í1;exact decide_eq_false ∅
end
section
variable {X:Cx}
def w71:V->List V->Hp->VK->Prop:=λx vs H Q=>∃ l xs y,x=.ref l/\vs=[y]/\H l=some (.lst xs)/\xs.length < sizeLine/\Q .non (upd H l (.lst (xs++[y])))
theorem V60:MtM X "list.append" w71:=by
 intro pins s σ H x vs v us Q I rx rv h;obtain⟨l,xs,y,rfl,rfl,hH,hz,q⟩:=h;cases rx;obtain⟨u,rfl,ru⟩:=rv.one;obtain⟨z,its,n,r,hl,e⟩:=I.J32 hH;refine È4 F.slot_list_append ⟨_,e,rfl⟩ F.entry_list_append (F.args_list_append_2 _ _) (PySem.list_append l its.toArray n u (by rw[Ö];omega)) ⟨e,?_⟩
 refine⟨.non,_,I.F92 (its':=its++[u]) hH e (by simp) (r.append (.cons ru .nil)) ?_,rfl,q⟩
 rw[ö,Ò4];omega
def W11:V->List V->Hp->VK->Prop:=λx vs H Q=>∃ l xs i k y,x=.ref l/\vs=[.int i]/\H l=some (.lst xs)/\-(2 ^ 63)<=i/\i < 2 ^ 63/\seqIndex? i xs.length=some k/\xs[k]?=some y/\Q y (upd H l (.lst (xs.eraseIdx k)))
theorem M41:MtM X "list.pop" W11:=by
 intro pins s σ H x vs v us Q I rx rv h;obtain⟨l,xs,i,k,y,rfl,rfl,hH,h1,h2,hk,hy,q⟩:=h;cases rx;obtain⟨u,rfl,ru⟩:=rv.one;obtain⟨t,rfl⟩:=ru;obtain⟨z,its,n,r,hl,e⟩:=I.J32 hH;obtain⟨w,hw,rw'⟩:=r.get hy;refine È4 F.slot_list_pop ⟨_,e,rfl⟩ F.entry_list_pop (F.args_list_pop_2 _ _)
  (MeetsSeq.list_pop_at l its.toArray n i t k w (fitsIndex_both h1 h2) (by rw[Ö,← hl];exact hk) (by rw[← ÿ];exact hw) (by rw[Ö];omega)) ⟨e,?_⟩
 refine⟨y,_,I.F92 (its':=its.eraseIdx k) hH e ?_ (r.eraseIdx k) ?_,rw',q⟩
 ·show its.toArray.eraseIdxIfInBounds k=(its.eraseIdx k).toArray;rw[List.eraseIdxIfInBounds_toArray]
 ·have:=V50 xs k;omega
theorem len_rep{α:Type}(xs:List α)(k:Nat):(í k xs).flatten.length=k * xs.length:=by
 induction k with
 |zero=>simp|succ k ih=>rw[Ç1,Ë8,ö,ih,Nat.succ_mul,Nat.add_comm]
end
end L2
namespace Att
open PySem PySem.W PySem.Calls PyProof.Rows
theorem F80{P:Params}{h:ò}:∀ (ns:List Int) (vs:List Ã),WellAll P h vs (ns.map WData.int)->Ë3 vs ns:=by
 intro ns
 induction ns with
 |nil =>
  intro vs w;rw[map_nil] at w;cases w;exact .nil
 |cons n ns ih =>
  intro vs w;rw[È1] at w;cases w with
  |cons a b =>
   cases a;exact .cons _ _ (ih _ b)
theorem w81{l:OpenLaw}{n:Nat}(hn:l.most=some n){P:Params}{h:ò}{args:List WData}{vals:List Ã}
  (hpre:l.row.toRowW.claim.pre args=true) (hwl:WellAll P h vals args) :
  ∃ a vs ns,vals=[Ä4 a]/\args=[WData.list (ns.map WData.int)]/\h.get? a=some { cls:=.type "list",data:=.seq vs.toArray }/\Ë3 vs ns/\ns.length<=n:=by
 have hsh:WShape.hasAll [] args [.list .int]=true:=(pre_splitW hpre).1;have hc:l.pre.holds [] { args:=args }=true:=(pre_splitW hpre).2;obtain⟨d,r,rfl,h1,h2⟩:=hasAllW_cons hsh;obtain rfl:=hasAllW_nil h2;obtain⟨xs,rfl,h3⟩:=hasW_list h1;obtain⟨ns,rfl⟩:=items_int h3;have hlen:ns.length<=n:=by
  unfold OpenLaw.pre at hc;have h4:(WTm.not (.lt (.lit (.int (n:Int))) (.len (.arg 0)))).holds [] { args:=[.list (ns.map .int)] }=true:=by
   have h4:=(holds_andW hc).1;rw[hn] at h4;exact h4
  have h5:=condW_of h4 (w_not (w_lt w_lit (w_len_list (w_arg rfl))));rw[Å] at h5;refine Ú5 λq=>?_;have q':(n:Int) < ((ns.length:Nat):Int):=by omega
  first
   |(rw[decide_eq_true q'] at h5;exact absurd h5 (-0))
   |(simp at h5;omega)
 cases hwl with
 |cons w1 w2 =>
  cases w2;cases w1 with
  |list ho hall=>exact⟨_,_,ns,rfl,rfl,ho,F80 ns _ hall,hlen⟩
theorem w91(l:OpenLaw)(args:List WData):l.row.toRowW.claim.post args (.bool true) args=true :=
 postW_of (r:=l.row.toRowW) (X:=(true == true))
  (show WShape.has [] (.bool true) .bool=true by first | rfl | decide | simp[WShape.has,WShape.arms,WShape.armsAll])
  (show(WTm.eq .res (.lit (.bool true))).value [] { args:=args,res:=some (.bool true),after:=args }=some (.bool (true == true)) from w_eq_bool (w_res rfl) w_lit) rfl
theorem c11{l:OpenLaw}{n:Nat}{q:ç}{loose:List Str}{XP:(Str->Option Ã)->ò->Prop}{YP:ø->ò->Prop}{d:DefRec}
  (hn:l.most=some n) (hdf:d.params.defaults=[])
  (call:∀ (w:ø) (s₀ s₁:Æ) (mg mb:Str->Option Ã) (fa:È) (o:Obj) (pm cd doc:Ã) (a:È) (vs:List Ã) (ns:List Int),
   Ground q loose [] XP w s₀ mg mb s₁.heap->YP w s₁.heap ->
   s₁.heap.get? fa=some o->o.data=.func (docDef d.name d.params d.body d.scope pm cd doc)->s₁.heap.CodeRec cd d.name->mg d.name=some (.ref fa) ->
   s₁.heap.get? a=some { cls:=.type "list",data:=.seq vs.toArray }->Ë3 vs ns->ns.length<=n->s₁.gens=#[] ->
   Ó8 (Û l.prog w) Û4 (.call (.ref fa) ⟨[.ref a],[]⟩) (λr s'=>r=.ok (.ret (.bool true))/\OldK s₁.heap s'.heap/\s'.os=s₁.os/\Ô1 s'.gens) s₁) :
  WalkO q loose XP YP l.row.toRowW d [] (λf vs=>PySem.call f vs):=by
 intro w s₀ s₁ mg mb G Y fa o pm cd doc dV kV ho hd hcd hD hmg hg args vals as hpre hlay hrd hwl hlo;obtain rfl:dV=.none:=Dflts.none hD hdf;obtain rfl:kV=.none:=Dflts.noKw hD;obtain⟨a,vs,ns,rfl,rfl,hobj,hints,hlen⟩:=w81 hn hpre hwl;refine enter_call (Ó7 (call w s₀ s₁ mg mb fa o pm cd doc a vs ns G Y ho (fd_plain hd) hcd hmg hobj hints hlen hg) λr s' hq=>?_);obtain⟨rfl,h2,h3,h4⟩:=hq;exact⟨.inl ⟨.bool true,.bool true,[],rfl,λ_=>rfl,.bool true,w91 l _,λ_=>⟨Õ7.nil,λ_ hm=>(nomatch hm)⟩⟩,h2,h3,h4⟩
end Att
namespace L2
open PySem PySem.Spec PyProof.Rows
theorem V70:∀ {vs:List Ã}{ns:List Int},Ë3 vs ns->Vals (ns.map V.int) vs
 |_,_,.nil=>.nil|_,_,.cons n t h=>.cons ⟨t,rfl⟩ (V70 h)
def N60(s:Ç9):Arguments:=match s with
 |.FunctionDef _ a _ _ _ _ _ _ _ _=>a|_=>{ posonlyargs:=[],args:=[],vararg:=none,kwonlyargs:=[],kw_defaults:=[],kwarg:=none,defaults:=[] }
def q20(s:Ç9):List Stmt:=match s with
 |.FunctionDef _ _ b _ _ _ _ _ _ _=>b|_=>[]
def d20(s:Ç9):Scope:=match s with
 |.FunctionDef _ _ _ _ _ _ sc _ _ _=>sc|_=>{ kind:=.function,names:=[],isGenerator:=false,isCoroutine:=false }
abbrev CX0:CXT:=λ_ _ _ _ _ _=>False
structure Fun(K:PySem.W.Frag)(x qual:Str)(st:Stmt)(f:Addr)(fd:FuncData):Prop where
 ex:∃ (oc:Value) (od:Option Addr) (kV doc pm:Value) (an:Option Addr) (cdv ct:Value) (osl:Array (Option Value)),
  fd=fnOf x qual (N60 st) (q20 st) (d20 st) .none kV doc pm an cdv ct/\K.lookup f=some ⟨oc,od,.func fd,osl⟩/\PySem.W.codeIn K cdv qual=true
 kp:PySem.W.keepIn K (.ref f)=true
section
variable {P:ç}{w:ø}{K:Â}{mg:Str->Option Ã}{base:ò}
theorem Fun.binds{x qual:Str}{st:Ç9}{f:È}{fd:Ë2}{ps:List Str}(F:Fun K x qual st f fd)
  (h:∀ (kV doc pm:Ã) (an:Option È) (cdv ct:Ã) (us:List Ã),us.length=ps.length->bindArgs (fnOf x qual (N60 st) (q20 st) (d20 st) .none kV doc pm an cdv ct) ⟨us,[]⟩=pure (ps.zip us)):Binds K fd ps []:=by
 obtain⟨oc,od,kV,doc,pm,an,cdv,ct,osl,rfl,lk,hcd⟩:=F.ex;exact .all (h kV doc pm an cdv ct)
end
theorem c82{A:ý}{k:Nat}(hr:U60 k A):A.units + 1 < cLine:=Î3 (Nat.add_le_add_left (by decide:1<=64) _) hr.units
def a30(H H':Hp):Prop:=∀ b o,H b=some o->H' b=some o
theorem a30.refl(H:Hp):a30 H H:=λ_ _ h=>h
theorem a30.trans{H H1 H2:Hp}(a:a30 H H1)(b:a30 H1 H2):a30 H H2:=λc o h=>b c o (a c o h)
end L2
set_option maxHeartbeats 4000000
namespace L2
open PySem
abbrev NoX:Ã->Æ->Prop:=λ_ _=>False
theorem c21(env:Env):∀ (names:List (Str × Ë1)) (acc:List (Str × È)),(∀ y∈names,y.2=.free->∃ c,env.cells.lookup y.1=some c)->(∀ x c,acc.lookup x=some c->env.cells.lookup x=some c) ->
  ∃ cl:List (Str × È),(forIn names acc λ(x:Str × Ë1) (r:List (Str × È))=>(if (x.2 == .free)=true then do let c ← cellOf env x.1;pure (â ((x.1,c)::r)) else pure (â r):Sem (ForInStep (List (Str × È)))))=pure cl /\
   (∀ x c,cl.lookup x=some c->env.cells.lookup x=some c)/\(∀ x c,acc.lookup x=some c->∃ c',cl.lookup x=some c')/\(∀ y∈names,y.2=.free->∃ c,cl.lookup y.1=some c)
 |[],acc,_,ha=>⟨acc,by simp,ha,λx c e=>⟨c,e⟩,λy hy=>absurd hy (by simp)⟩
 |(n,k)::r,acc,hf,ha=>by
  by_cases hk:k=.free
  ·subst hk;obtain⟨c,hc⟩:=hf (n,.free) Ç rfl;have hcell:cellOf env n=pure c:=by unfold cellOf;rw[hc]
   obtain⟨cl,e,h1,h2,h3⟩:=c21 env r ((n,c)::acc) (λy hy=>hf y (É _ hy)) (λx c' e=>by
    rw[À3] at e;by_cases hx:(x == n)=true
    ·rw[hx] at e;have:x=n:=by simpa using hx
     subst this;cases e;exact hc
    ·rw[show(x == n)=false by simpa using hx] at e
     exact ha x c' e)
   refine⟨cl,?_,h1,λx c' e'=>?_,λy hy hyk=>?_⟩
   ·rw[Ì7];simp only[beq_self_eq_true,if_true,hcell,pure_bind];exact e
   ·by_cases hx:(x == n)=true
    ·exact h2 x c (by rw[À3,hx])
    ·exact h2 x c' (by rw[À3,show(x == n)=false by simpa using hx];exact e')
   ·rcases à.mp hy with rfl | hy
    ·exact h2 n c (by simp[À3])
    ·exact h3 y hy hyk
  ·obtain⟨cl,e,h1,h2,h3⟩:=c21 env r acc (λy hy=>hf y (É _ hy)) ha;refine⟨cl,?_,h1,h2,λy hy hyk=>?_⟩
   ·rw[Ì7];have hb:((k == ñ)=true)=False:=by simpa using hk
    simp only[hb,if_false,pure_bind];exact e
   ·rcases à.mp hy with rfl | hy
    ·exact absurd hyk hk
    ·exact h3 y hy hyk
theorem c31(hf:∀ y∈scope.names,y.2=.free->∃ c,env.cells.lookup y.1=some c) :
  ∃ cl:List (Str × È),closureFor scope env=pure cl/\(∀ x c,cl.lookup x=some c->env.cells.lookup x=some c)/\(∀ y∈scope.names,y.2=.free->∃ c,cl.lookup y.1=some c):=by
 obtain⟨cl,e,h1,_,h3⟩:=c21 env scope.names [] hf (λx c e=>by simp at e)
 refine⟨cl,?_,h1,h3⟩;simp only[closureFor];exact(congrArg (λt=>t >>= λr=>(pure r:Sem _)) e).trans (by simp)
section
variable {P:ç}{w:ø}{A:ý}{R:Result->Æ->Prop}{s:Æ}
theorem x01{el tg src:Ò}{tests:List Ò}{sc:Á2}{ps:Pos}{itv av:Ã}{en:Env}(J:Nat->Æ->Prop)
  (turn:∀ n s,J n s->Ô (Û P w) A (pyNext itv) (λr s1=>match r with
   |none=>R (.ok .next) s1
   |some v=>Ô (Û P w) A (Ý5 tg itv v) (λ_ s2=>Ô (Û P w) A (Ö7 tg en v) (λ_ s3 =>
     Ô (Û P w) A (forIn tests true λc r=>if r=true then do let ok ← isTrue c en (eval c en);pure (â ok) else pure (â r)) (λok s4 =>
      if ok=true then Ô (Û P w) A (eval el en) (λx s5 =>
       Ô (Û P w) A (call (.builtin "list.append") [av,x]) (λ_ s6=>∃ m,m < n/\J m s6) NoX s5) NoX s4
      else ∃ m,m < n/\J m s4) NoX s3) NoX s2) NoX s1) NoX s)
  (n:Nat) (h:J n s) :
  Ó8 (Û P w) A (.compLoop (.ListComp el [⟨tg,src,tests,0⟩] sc ps) 0 itv av en) R s:=by
 refine codeAny_loop rfl J (λn s hI=>?_) n h;show Ô _ A ((compTurn (.ListComp el [⟨tg,src,tests,0⟩] sc ps) 0 itv av en).onRaise (λx=>do noteFrame x en;theTreesLotGoes x)) _ _ s;refine wpAny_noted ?_;rw[compTurn_list];refine Á (Ù3 (Á (Å2 (turn n s hI) (λr s1 h1=>?_) λ_ _ x=>x.elim)));cases r with
 |none=>exact Î h1
 |some v =>
  refine Á (Å2 h1 (λ_ s2 h2=>?_) λ_ _ x=>x.elim);refine Á (Å2 h2 (λ_ s3 h3=>Á (Å2 h3 (λok s4 h4=>?_) λ_ _ x=>x.elim)) λ_ _ x=>x.elim);cases ok with
  |false=>exact Î ⟨rfl,h4⟩|true=>exact Á (Á (Å2 h4 (λx s5 h5=>Á (Å2 h5 (λ_ s6 h6=>Î (Î ⟨rfl,h6⟩)) λ_ _ x=>x.elim)) λ_ _ x=>x.elim))
end
open PySem PySem.Spec PyProof.Rows
abbrev c90(X:Cx)(N':List Str)(sc:Á2)(cl:List (Str × È))(C:È)(s:Æ)(H:Hp)(fp:List È):Cx :=
 { X with N:=N',s₀:=s,H₀:=H,env:=compEnvC sc cl C X.env,outer:=X.stack,stack:=X.stack,ex:=fp,fn:=λ_=>false,pn:=[],xe:=NoX }
def e60(own:List Str)(capt:List (Str × Nat)):List Str:=own++capt.map (·.1)
def v00(own:List Str)(capt:List (Str × Nat))(σ:St):St:=own.map (λ_=>none)++capt.map λp=>(σ[p.2]?).getD none
structure F90(X:Cx)(sc:Scope)(own:List Str)(capt:List (Str × Nat)):Prop where
 kind:sc.kind=.function
 nocell:∀ y∈sc.names,y.2≠.cell
 locs:∀ y∈sc.names,y.2=.local->sc.names.lookup y.1=some .local
 frees:∀ y∈sc.names,y.2=.free->X.env.kindOf y.1=some .cell∨X.env.kindOf y.1=some .free
 captd:∀ p∈capt,X.N[p.2]?=some p.1/\sc.names.lookup p.1=some .free
theorem N70{env:Env}:∀ {names:List (Str × Ë1)}{x:Str}{k:Ë1},
  (names.map λ(n,k)=>if (k == ñ&&env.scope.kind == .function&&env.kindOf n == some .cell) then(n,Æ0) else(n,k)).lookup x=some k->(k=.cell∨k=.free)->(∀ y∈names,y.2≠.cell)->(x,ñ)∈names
 |[],_,_,h,_,_=>by simp at h
 |(n,k0)::r,x,k,h,hk,hn=>by
  have h:Ì9 x ((if (k0 == ñ&&env.scope.kind == .function&&env.kindOf n == some .cell)=true then(n,Æ0) else(n,k0))::_)=some k:=h;have hn0:k0≠.cell:=hn (n,k0) Ç;cases hx:x == n with
  |true =>
   have e:x=n:=by simpa using hx
   subst e;by_cases hc:(k0 == ñ&&env.scope.kind == .function&&env.kindOf x == some .cell)=true
   ·have:k0=.free:=by
     cases k0 <;> simp_all
    subst this;exact Ç
   ·rw[if_neg hc] at h;simp only[À3,hx] at h;cases h;rcases hk with hk | hk
    ·exact absurd hk hn0
    ·subst hk;exact Ç
  |false =>
   have h':(r.map λ(n,k)=>if (k == ñ&&env.scope.kind == .function&&env.kindOf n == some .cell) then(n,Æ0) else(n,k)).lookup x=some k:=by
    by_cases hc:(k0 == ñ&&env.scope.kind == .function&&env.kindOf n == some .cell)=true
    ·rw[if_pos hc] at h;simp only[À3,hx] at h;exact h
    ·rw[if_neg hc] at h;simp only[À3,hx] at h;exact h
   exact É _ (N70 h' hk λy hy=>hn y (É _ hy))
theorem s50{env:Env}:∀ {names:List (Str × Ë1)}{x:Str},names.lookup x=some .free ->
  (names.map λ(n,k)=>if (k == ñ&&env.scope.kind == .function&&env.kindOf n == some .cell) then(n,Æ0) else(n,k)).lookup x=some .cell ∨
  (names.map λ(n,k)=>if (k == ñ&&env.scope.kind == .function&&env.kindOf n == some .cell) then(n,Æ0) else(n,k)).lookup x=some .free
 |[],_,h=>by simp at h
 |(n,k)::r,x,h=>by
  have ih:=@s50 env r x;show Ì9 x ((if (k == ñ&&env.scope.kind == .function&&env.kindOf n == some .cell)=true then(n,Æ0) else(n,k))::_)=_∨Ì9 x ((if (k == ñ&&env.scope.kind == .function&&env.kindOf n == some .cell)=true then(n,Æ0) else(n,k))::_)=_;cases hx:x == n with
  |true =>
   simp only[À3,hx] at h;cases h;by_cases hc:(ñ == ñ&&env.scope.kind == .function&&env.kindOf n == some .cell)=true
   ·rw[if_pos hc];left;simp only[À3,hx]
   ·rw[if_neg hc];right;simp only[À3,hx]
  |false =>
   simp only[À3,hx] at h;by_cases hc:(k == ñ&&env.scope.kind == .function&&env.kindOf n == some .cell)=true
   ·rw[if_pos hc];simp only[À3,hx];exact ih h
   ·rw[if_neg hc];simp only[À3,hx];exact ih h
theorem HOk.M51{P:ç}{w:ø}{H:Hp}{h:ò}{D:È}{ys:List V}{its:List Ã}{n:Nat}(x:HOk P w H h)(hn:H D=none)(hv:Vals ys its)(hz:ys.length<=sizeLine)
  (ho:h.get? D=some { cls:=.type "list",data:=.seq its.toArray n }):HOk P w (upd H D (.lst ys)) h:=λb u e=>by
 by_cases hb:b=D
 ·subst hb;rw[d10] at e;cases e;exact⟨hz,its,n,hv,ho⟩
 ·rw[a80 hb] at e;exact(x b u e).L01 (λc v _ q=>q) (λc q=>by rw[a80 (c00 q hn)];exact q) λc xs q=>by rw[a80 (c00 q hn)];exact q
def PTs(X:Cx)(tests:List Ò)(t:TT):Prop :=
 ∀ (pins:List (È × Obj)) (s:Æ) (σ:St) (H:Hp) (Q:Bool->Hp->Prop),Inv X pins σ H s->t σ H Q ->
  Ô (Û X.prog X.w) X.A (forIn tests true λc r=>if r=true then do let ok ← isTrue c X.env (eval c X.env);pure (â ok) else pure (â r)) (TP X pins σ Q) X.xe s
def M61:TT:=λ_ H Q=>Q true H
theorem c92:PTs X [] M61:=λ_ _ _ H _ I h=>wpAny_tests_nil ⟨H,I,h⟩
theorem d02(hc:PT X c t):PTs X [c] t:=λpins s σ H Q I h=>wpAny_tests_one (hc pins s σ H Q I h)
section
variable {X:Cx}{pins:List (È × Obj)}{σ:St}{H2:Hp}{s2:Æ}{sc:Á2}{own:List Str}{capt:List (Str × Nat)}{cl:List (Str × È)}{fp:List È}{C:È}
theorem V80(I:Inv X pins σ H2 s2)(S:F90 X sc own capt)(hcl:∀ x c,cl.lookup x=some c->X.env.cells.lookup x=some c)(hcf:∀ y∈sc.names,y.2=.free->∃ c,cl.lookup y.1=some c)
  (hx:∀ x c,X.env.cells.lookup x=some c->c ∉ fp) {h':ò} (un:∀ c o,s2.heap.get? c=some o->H2 c=none->c ∉ fp->∃ sl,h'.get? c=some { o with slots:=sl }) (m:Str->Option Ã) :
  ∀ (i:Nat) (x:Str) (v:V),(e60 own capt)[i]?=some x->(v00 own capt σ)[i]?=some (some v)->∃ u,RelV v u/\Look (compEnvC sc cl C X.env) h' m x u:=by
 intro i x v e1 e2;unfold e60 at e1;unfold v00 at e2;by_cases hi:i < own.length
 ·rw[Ï0 (by simpa using hi),ã] at e2
  cases q:own[i]? with
  |none=>rw[q] at e2;cases e2
  |some y=>rw[q] at e2;cases e2
 ·rw[Å4 (by simpa using hi),Å,ã] at e2
  rw[Å4 (by simpa using hi),ã] at e1
  cases q:capt[i - own.length]? with
  |none=>rw[q] at e1;cases e1
  |some p =>
   rw[q] at e1 e2;obtain rfl:p.1=x:=Á5 e1;have e3:(σ[p.2]?).getD none=some v:=Á5 e2;have e4:σ[p.2]?=some (some v):=by
    cases z:σ[p.2]? with
    |none=>rw[z] at e3;cases e3
    |some w=>rw[z] at e3;exact congrArg some e3
   obtain⟨hN,hf⟩:=S.captd p (ô q);have hmem:(p.1,ñ)∈sc.names:=Ç0 hf;have hk:=S.frees _ hmem rfl;obtain⟨m0,_,hl⟩:=I.loc;have vis:Vis X.env.scope p.1:=.inr hk;obtain⟨u,r,lk⟩:=hl p.2 p.1 v hN e4 vis;refine⟨u,r,.inr ⟨?_,?_⟩⟩
   ·exact s50 hf
   ·rcases lk with ⟨hl0,_⟩ | ⟨_,c,hc,o,ho,hd⟩
    ·rcases hk with hk | hk <;> (rw[hk] at hl0;cases hl0)
    ·obtain⟨c',hc'⟩:=hcf _ hmem rfl;have:=hcl _ _ hc';rw[hc] at this;cases this;obtain⟨sl,q'⟩:=un c o ho (I.freeC _ _ hc) (hx _ _ hc);exact⟨c,hc',_,q',hd⟩
end
def d12(X:Cx)(pins:List (È × Obj))(σ:St)(R:V->Hp->Prop)(acc:Ã)(C:È)(s':Æ):Prop :=
 ∃ D H' m',acc=.ref D/\Inv X pins σ H' s'/\i21 X pins H' C/\s'.heap.Ns C m'/\R (.ref D) H'
def d22(J:It)(σ0:St)(H1:Hp)(g:TG)(tt:TT)(te:TE)(Q:VK):Prop:=∃ W:Nat->Nat->List V->Hp->Prop,(∃ m,W 0 m [] H1)/\∀ i m ys H,W i m ys H ->
 (J.stop i H/\∀ p,H p=none->Q (.ref p) (upd H p (.lst ys))) ∨
 (J.go i H/\ys.length < sizeLine/\∃ N:List V->Hp->Prop,(∀ zs H',N zs H'->∃ m',m' < m/\W (i + 1) m' zs H')/\∀ x H',J.yld i H x H'->g x σ0 H' λσ2 H2=>tt σ2 H2 λb H3 =>
  if b=true then te σ2 H3 (λy H4=>N (ys++[y]) H4) else N ys H3)
def d32(own:List Str)(capt:List (Str × Nat))(wi:TI)(g:TG)(tt:TT)(te:TE):TE:=λσ H Q=>wi σ H λJ H1=>d22 J (v00 own capt σ) H1 g tt te Q
section
variable {X:Cx}{pins:List (È × Obj)}{σ:St}{H2:Hp}{s2:Æ}{sc:Á2}{own:List Str}{capt:List (Str × Nat)}{cl:List (Str × È)}{el tg src:Ò}{tests:List Ò}{ps:Pos}{g:TG}{tt:TT}{te:TE}
theorem L30(hc:X.calm=true)(S:F90 X sc own capt)(hcl:∀ x c,cl.lookup x=some c->X.env.cells.lookup x=some c)(hcf:∀ y∈sc.names,y.2=.free->∃ c,cl.lookup y.1=some c)
  (hg:∀ C s H fp,PG (c90 X (e60 own capt) sc cl C s H fp) tg g) (ht:∀ C s H fp,PTs (c90 X (e60 own capt) sc cl C s H fp) tests tt) (he:∀ C fp,(∀ b∈fp,i21 X pins H2 b)->PE (c90 X (e60 own capt) sc cl C s2 H2 fp) el te)
  {it:È}{fp:List È}{tn:Nat->ò->Prop}{J:It} (I2:Inv X pins σ H2 s2) (T:Turn X.prog X.w X.K tg J fp it tn) (st2:tn 0 s2.heap) (f2:∀ b∈fp,i21 X pins H2 b)
  {R:VK} (h:d22 J (v00 own capt σ) H2 g tt te R) {RR:Ã->È->Result->Æ->Prop} (hRR:∀ acc C s',d12 X pins σ R acc C s'->RR acc C (.ok .next) s') {E:Ã->Æ->Prop} :
  Ô (Û X.prog X.w) X.A (newList []) (λacc s3=>Ô (Û X.prog X.w) X.A (newFunctionEnv sc X.env.globals cl [] X.env.qual none .none (some X.env)) (λce s4 =>
   Ó8 (Û X.prog X.w) X.A (.compStart (.ListComp el [⟨tg,src,tests,0⟩] sc ps) 0 (.ref it) acc { ce with scope:=relabel sc X.env }) (RR acc ce.locals) s4) E s3) E s2:=by
 obtain⟨W,⟨m0,w0⟩,turn⟩:=h;refine À2 (wpAny_newFunctionEnv S.nocell (by intro y hy;simp at hy) (λh1 hns1 hsb1=>?_) S.kind)
 dsimp only at hns1 hsb1 ⊢;generalize hH3:s2.heap.push { cls:=.type "list",dict:=none,data:=.seq ([]:List Ã).toArray }=h3 at hns1 hsb1 ⊢;have hC:h3.objs.size=s2.heap.objs.size + 1:=by rw[← hH3,Ê9]
 have below:∀ b,b < s2.heap.objs.size->b≠h3.objs.size/\b≠s2.heap.objs.size:=λb hb=>⟨by omega,by omega⟩
 have hDC:s2.heap.objs.size≠h3.objs.size:=by omega
 have old:∀ b o,s2.heap.get? b=some o->h1.get? b=some o:=λb o e=>hsb1.extBut b o (below b (å e)).1 (Ä _ (hH3 ▸ Ä _ e));have hacc:h1.get? s2.heap.objs.size=some { cls:=.type "list",data:=.seq ([]:List Ã).toArray 0 }:=hsb1.extBut _ _ hDC (Ä _ (hH3 ▸ Ð _ rfl));have fpLt:∀ b∈fp,b < s2.heap.objs.size:=λb hb=>by
  obtain⟨o,e,_⟩:=T.obj _ _ st2 b hb;exact å e
 have celLt:∀ x c,X.env.cells.lookup x=some c->c < s2.heap.objs.size:=λx c e=>by
  obtain⟨v,o,q,_⟩:=I2.cell x c e;exact å q
 have frLt:∀ b∈frs X.stack,b < s2.heap.objs.size:=λb hb=>by
  obtain⟨_,o,q,_⟩:=I2.stack.mem hb;exact å q
 have celFp:∀ x c,X.env.cells.lookup x=some c->c ∉ fp:=λx c e hb=>(f2 c hb).2.2.2.2.1 x c e rfl;have fpFr:∀ b∈fp,b ∉ frs X.stack:=λb hb hf=>by
  rcases à.mp (I2.u81 b hf) with z | z
  ·exact(f2 b hb).2.1 z
  ·exact(f2 b hb).2.2.1 z
 have okX:(c90 X (e60 own capt) sc cl h3.objs.size s2 H2 fp).Ok:=by
  refine⟨I2.ok.mod,S.kind,I2.ok.glob,I2.ok.blt,(by show s2.heap.objs.size<=h3.objs.size;omega),λx y c e1 e2=>I2.ok.inj x y c (hcl x c e1) (hcl y c e2),λx hx=>?_,λx c hx=>(by cases hx),I2.ok.hd,I2.ok.frames,.inl rfl,
   λb hb=>⟨(below b (fpLt b hb)).1,λx c e z=>celFp x c (hcl x c e) (z ▸ hb)⟩,I2.bs,Ù I2.ok.bsz I2.sz,λb o e hb=>?_,fpFr,I2.stack,I2.b51⟩
  ·have hx':(x,ñ)∈sc.names:=by
    rcases hx with hx | hx
    ·exact N70 hx (.inl rfl) S.nocell
    ·exact N70 hx (.inr rfl) S.nocell
   exact hcf _ hx' rfl
  ·rcases (f2 b hb).2.2.2.1 with z | z
   ·exact I2.ok.noex b o e z
   ·have l1:b < X.base.objs.size:=å e;have l2:X.base.objs.size<=X.s₀.heap.objs.size:=I2.ok.bsz;have l3:X.s₀.heap.objs.size<=b:=z;exact absurd l1 (Nat.not_lt.mpr (Ù l2 l3))
 have reset:∀ {pl:List (È × Obj)}{σ':St}{H':Hp}{s':Æ},Inv (c90 X (e60 own capt) sc cl h3.objs.size s2 H2 fp) pl σ' H' s'->Inv (c90 X (e60 own capt) sc cl h3.objs.size s2 H2 fp) pl (v00 own capt σ) H' s':=λ{pl σ' H' s'} I'=>by
  obtain⟨m,hn,_⟩:=I'.loc;refine⟨I'.ok,I'.os,I'.bare,I'.base,⟨m,hn,λi x v e1 e2 _=>V80 I2 S hcl hcf celFp (λc o q n hx=>I'.base.any q n hx) m i x v e1 e2⟩,I'.cell,I'.free,I'.freeC,I'.pin,I'.hok,?_⟩;show(v00 own capt σ).length=(e60 own capt).length;simp[v00,e60]
 have start:Inv (c90 X (e60 own capt) sc cl h3.objs.size s2 H2 fp) [(s2.heap.objs.size,{ cls:=.type "list",data:=.seq ([]:List Ã).toArray 0 })] (v00 own capt σ) H2 { s2 with heap:=h1,toks:=s2.toks + ([]:List (Str × Ã)).length }:=by
  refine⟨okX,rfl,I2.bare,Un.kept old,⟨_,hns1,λi x v e1 e2 _=>V80 I2 S hcl hcf celFp (λc o q _ _=>⟨o.slots,old c o q⟩) _ i x v e1 e2⟩,λx c e=>?_,?_,λx c e=>I2.freeC x c (hcl x c e),λp hp=>?_,I2.hok.kept old,?_⟩
  ·obtain⟨v,q⟩:=I2.cell x c (hcl x c e);exact⟨v,q.keeps old⟩
  ·exact I2.hok.fresh (by show s2.heap.objs.size<=h3.objs.size;omega)
  ·have hp':p=(s2.heap.objs.size,{ cls:=.type "list",data:=.seq ([]:List Ã).toArray 0 }):=by simpa using hp
   subst hp';exact⟨hacc,I2.hok.fresh (Ê _),hDC,λz=>À1 _ (frLt _ z),λv z=>by cases z⟩
  ·show(v00 own capt σ).length=(e60 own capt).length;simp[v00,e60]
 have u31:∀ {pl:List (È × Obj)}{H':Hp},(∀ p∈pl,p.1 ∉ fp)->(∀ b∈fp,H' b=none)->∀ b∈fp,i21 (c90 X (e60 own capt) sc cl h3.objs.size s2 H2 fp) pl H' b:=λ{pl H'} hp hn b hb =>
  ⟨hn b hb,(below b (fpLt b hb)).1,fpFr b hb,.inl hb,λx c e z=>celFp x c (hcl x c e) (z ▸ hb),λp hpp z=>hp p (by simpa using hpp) (z ▸ hb)⟩
 have hDfp:s2.heap.objs.size ∉ fp:=λz=>À1 _ (fpLt _ z);have loop:∀ s3:Æ,s3={ s2 with heap:=h1,toks:=s2.toks + ([]:List (Str × Ã)).length } ->
   Ó8 (Û X.prog X.w) X.A (.compLoop (.ListComp el [⟨tg,src,tests,0⟩] sc ps) 0 (.ref it) (.ref s2.heap.objs.size) (compEnvC sc cl h3.objs.size X.env)) (RR (.ref s2.heap.objs.size) h3.objs.size) s3:=by
  rintro s3 rfl;refine x01 (λn s'=>∃ i ys H' its k,Inv (c90 X (e60 own capt) sc cl h3.objs.size s2 H2 fp) [(s2.heap.objs.size,{ cls:=.type "list",data:=.seq (Ä7 its) k })] (v00 own capt σ) H' s'/\tn i s'.heap/\(∀ b∈fp,H' b=none)/\Vals ys its/\ys.length<=sizeLine/\W i n ys H') ?_ m0
   ⟨0,[],H2,[],0,start,T.keep _ _ _ st2 λb _ o e=>old b o e,λb hb=>(f2 b hb).1,.nil,Æ6 _,w0⟩
  rintro n s' ⟨i,ys,H',its,k,I',st',fr',hv,hz,w'⟩;have pinD:∀ p∈[((s2.heap.objs.size:È),({ cls:=.type "list",data:=.seq (Ä7 its) k }:Obj))],p.1 ∉ fp:=λp hp=>by
   have hp':p=(s2.heap.objs.size,{ cls:=.type "list",data:=.seq (Ä7 its) k }):=by simpa using hp
   subst hp';exact hDfp
  rcases turn i n ys H' w' with ⟨stop,q⟩ | ⟨go,hlt,N,hN,step⟩
  ·refine thn (T.done (c90 X (e60 own capt) sc cl h3.objs.size s2 H2 fp) rfl rfl rfl hc i _ s' _ H' NoX I' (u31 pinD fr') st' stop) λr s1 hr=>?_;obtain⟨hr,I1⟩:=hr;subst hr;obtain⟨gD,nD,_,_,_⟩:=I1.pin _ (Ú _ Ç);obtain⟨m',hn',_⟩:=id I1.loc;have un:Un (frs X.stack) fp H2 (upd H' s2.heap.objs.size (.lst ys)) s2.heap s1.heap:=by
    have u:=I1.base;have nD2:H2 s2.heap.objs.size=none:=I2.hok.fresh (Ê _);refine⟨u.keep,u.slot,λb o e n hx=>?_,u.there,λb xs e=>?_,λb o xs e=>?_,λb ps' e=>?_⟩
    ·rw[a80 (below b (å e)).2];exact u.free b o e n hx
    ·rw[a80 (c00 e nD2)];exact u.tups b xs e
    ·rw[a80 (c00 e nD2)];exact u.frzs b o xs e
    ·obtain⟨more,e'⟩:=u.tbls b ps' e;exact⟨more,by rw[a80 (c00 e nD2)];exact e'⟩
   have IX:Inv X pins σ (upd H' s2.heap.objs.size (.lst ys)) s1:=I2.G92 I1.os un (I1.hok.M51 nD hv hz gD) I1.bare λb hb=>⟨(f2 b hb).2.2.2.1,(f2 b hb).2.1,(f2 b hb).2.2.2.2.1,(f2 b hb).2.2.2.2.2⟩;refine hRR _ _ _ ⟨_,_,m',rfl,IX,?_,hn',q _ nD⟩;exact I2.u31 ∅ (by rw[a80 hDC.symm];exact I1.free)
  ·refine thn (T.item (c90 X (e60 own capt) sc cl h3.objs.size s2 H2 fp) rfl rfl rfl hc i _ s' _ H' NoX I' (u31 pinD fr') st' go) λr s1 hr=>?_;obtain⟨u,hr,h4⟩:=hr;subst hr;refine thn h4 λ_ s5 hr5=>?_;obtain⟨x,H5,I5,r5,y5,st5,fr5⟩:=hr5;have I5p:=I5.pinned (u31 pinD fr5) (T.obj _ _ st5);refine thn (hg _ _ _ _ _ s5 _ H5 x u _ I5p r5 (step x H5 y5)) λ_ s6 hr6=>?_;obtain⟨σ6,H6,I6,q6⟩:=hr6;refine thn (ht _ _ _ _ _ s6 σ6 H6 _ I6 q6) λok s7 hr7=>?_;obtain⟨H7,I7,q7⟩:=hr7;have memFp:∀ {pl:List (È × Obj)}{b:È}{o:Obj},b∈fp->s5.heap.get? b=some o->(b,o)∈([]:List (È × Obj))++(pl++F60 fp s5.heap):=λhb e=>Ú _ (Ú _ (n00 hb e));cases ok with
   |false =>
    rw[if_neg Í] at q7 ⊢;obtain⟨m',hm,w7⟩:=hN _ _ q7;refine⟨m',hm,i + 1,ys,H7,its,k,reset (I7.F50 λp hp=>I7.pin p (Ú _ (Á4 _ hp))),T.keep _ _ _ st5 λb hb o e=>(I7.pin (b,o) (memFp hb e)).1,λb hb=>?_,hv,hz,w7⟩;obtain⟨o,e,_⟩:=T.obj _ _ st5 b hb;exact(I7.pin (b,o) (memFp hb e)).2.1
   |true =>
    rw[if_pos rfl] at q7 ⊢;refine thn (he _ _ f2 _ s7 σ6 H7 _ I7 q7) λuv s8 hr8=>?_;obtain⟨y,H8,I8,r8,q8⟩:=hr8;obtain⟨m',hm,w8⟩:=hN _ _ q8;obtain⟨gD,nD,dC,dF,_⟩:=I8.pin _ (Ú _ (Á4 _ Ç));refine append_at gD (λh9 sb hD9=>?_) (by show(Ä7 its).size<=sizeLine;rw[Ö,← hv.length];exact hz)
    have I8a:Inv (c90 X (e60 own capt) sc cl h3.objs.size s2 H2 fp) (F60 fp s5.heap) σ6 H8 s8:=I8.F50 λp hp=>I8.pin p (Ú _ (Ú _ hp));have I9:Inv (c90 X (e60 own capt) sc cl h3.objs.size s2 H2 fp) (F60 fp s5.heap) σ6 H8 { s8 with heap:=h9 }:=I8a.turned (t':=s8.toks) (λb o hb e=>(sb.2 b hb).trans e) nD dC (.inr (Ê _))
     (λx c e z=>À1 s2.heap.objs.size (by have:=celLt x c (hcl x c e);rw[z] at this;exact this)) (λp hp z=>hDfp (z ▸ (U40 (by simpa using hp)).1))
    rw[List.push_toArray] at hD9;refine⟨m',hm,i + 1,ys++[y],H8,its++[uv],k + 1,(reset I9).F50 λp hp=>?_,T.keep _ _ _ st5 λb hb o e=>?_,λb hb=>?_,hv.append (.cons r8 .nil),by rw[ö];exact hlt,w8⟩
    ·have hp':p=(s2.heap.objs.size,{ cls:=.type "list",data:=.seq (Ä7 (its++[uv])) (k + 1) }):=by simpa using hp
     subst hp';exact⟨hD9,nD,dC,dF,λv z=>by cases z⟩
    ·exact(I9.pin (b,o) (Ú _ (n00 hb e))).1
    ·obtain⟨o,e,_⟩:=T.obj _ _ st5 b hb;exact(I9.pin (b,o) (Ú _ (n00 hb e))).2.1
 exact codeAny_compStart_list (loop _ rfl) (T.self _ 0 _ _ _ (T.keep _ _ _ st2 λb _ o e=>old b o e) (loop _ rfl))
end
section
variable {X:Cx}{sc:Á2}{own:List Str}{capt:List (Str × Nat)}{el tg src:Ò}{tests:List Ò}{ps pos:Pos}{wi:TI}{g:TG}{tt:TT}{te:TE}
theorem d42(hc:X.calm=true)(S:F90 X sc own capt)(hi:PI X tg src wi)(hg:∀ cl C s H fp,PG (c90 X (e60 own capt) sc cl C s H fp) tg g)
  (ht:∀ cl C s H fp,PTs (c90 X (e60 own capt) sc cl C s H fp) tests tt) (he:∀ cl C s H fp,PE (c90 X (e60 own capt) sc cl C s H fp) el te)
  (hs:∀ x,É0 src X.env x=pure x:=by intro _;rfl):PE X (.ListComp el [⟨tg,src,tests,0⟩] sc ps) (d32 own capt wi g tt te):=by
 intro pins s σ H Q I h;obtain⟨cl,hclos,hcl,hcf⟩:=c31 (scope:=sc) (env:=X.env) λy hy hk=>I.ok.has y.1 (S.frees y hy hk);rw[eval_ListComp];refine Ñ9 (use:=none) rfl hs hclos S.kind S.locs (thn (hi pins s σ H _ I h) λv s1 h1=>thn h1 λitv s2 h2=>?_);obtain⟨it,fp,tn,J,H2,e,I2,T,st2,f2,hw⟩:=h2;subst e;refine L30 hc S hcl hcf (hg cl) (ht cl) (λC fp _=>he cl C _ _ fp) I2 T st2 f2 hw (RR:=λacc C=>compPost (Û X.prog X.w) X.A X.xe none (EP X pins σ Q) acc C) λacc C s' hf=>?_;obtain⟨D,H',m',rfl,I',f',ns',r⟩:=hf;exact⟨m',ns',λh' sb=>⟨.ref D,H',I'.turned (t':=s'.toks) (λb o hb e=>(sb.2 b hb).trans e) f'.1 f'.2.1 f'.2.2.2.1 f'.2.2.2.2.1 f'.2.2.2.2.2,rfl,r⟩⟩
theorem d52{i:Nat}{y:Str}{py:Pos}(hN:X.N.Nodup)(hiN:X.N[i]?=some y)(hy:Loc X.env.scope y)(hsw:Ï7 (.ListComp el [⟨tg,src,tests,0⟩] sc ps) (some (.Name y py)) pos.line X.env=pure true)
  (hc:X.calm=true) (S:F90 X sc own capt) (hi:PI X tg src wi) (hg:∀ cl C s H fp,PG (c90 X (e60 own capt) sc cl C s H fp) tg g)
  (ht:∀ cl C s H fp,PTs (c90 X (e60 own capt) sc cl C s H fp) tests tt) (he:∀ cl C s H fp,PE (c90 X (e60 own capt) sc cl C s H fp) el te)
  (hs:∀ x,É0 src X.env x=pure x:=by intro _;rfl) (hf:X.fn y=true∨X.env.scope.names.lookup y=some .local:=by first | exact .inl rfl | exact .inr rfl | assumption) :
  PS X (.Assign [.Name y py] (.ListComp el [⟨tg,src,tests,0⟩] sc ps) pos) (s32 (d32 own capt wi g tt te) (q01 i)):=by
 intro pins s σ H D I h;obtain⟨cl,hclos,hcl,hcf⟩:=c31 (scope:=sc) (env:=X.env) λy hy hk=>I.ok.has y.1 (S.frees y hy hk);rw[exec_Assign_Name_used _ _ _ _ hsw];refine Á (Ù3 (Á ?_));show Ô _ X.A (do let _ ← comprehension (.ListComp el [⟨tg,src,tests,0⟩] sc ps) sc X.env _ (newList []) false (eval src X.env) (some (Ö7 (.Name y py) X.env))) _ _ s;refine Á (Å2 (Ñ9 (use:=some (Ö7 (.Name y py) X.env)) (Q:=λ_ s'=>SP X pins D .next s') rfl hs hclos S.kind S.locs
  (thn (hi pins s σ H _ I h) λv s1 h1=>thn h1 λitv s2 h2=>?_)) (λ_ s' hq=>Î (Î hq)) λ_ _ e=>e)
 obtain⟨it,fp,tn,J,H2,e,I2,T,st2,f2,hw⟩:=h2;subst e;refine L30 hc S hcl hcf (hg cl) (ht cl) (λC fp _=>he cl C _ _ fp) I2 T st2 f2 hw (RR:=λacc C=>compPost (Û X.prog X.w) X.A X.xe (some (Ö7 (.Name y py) X.env)) (λ_ s'=>SP X pins D .next s') acc C) λacc C s' hfn=>?_;obtain⟨DA,H',m',rfl,I',f',ns',r⟩:=hfn;show Ô _ X.A (Ö7 (.Name y py) X.env (.ref DA)) _ _ _;refine Û2 (U20 (v:=.ref DA) I' hN hiN hy rfl (λs3 I3 ha=>?_) hf);obtain⟨a,sb,ha⟩:=ha;have hCa:C≠a:=λz=>by
  rcases ha with q | q
  ·exact f'.2.1 (z.trans q)
  ·exact f'.2.2.2.2.1 _ _ q z.symm
 exact⟨m',ns'.sameBut sb hCa,λh' sb'=>⟨_,H',I3.turned (t':=s3.toks) (λb o hb e=>(sb'.2 b hb).trans e) f'.1 f'.2.1 f'.2.2.2.1 f'.2.2.2.2.1 f'.2.2.2.2.2,r⟩⟩
end
end L2
namespace L2
open PySem
section
variable {P:ç}{w:ø}{A:ý}{E:Ã->Æ->Prop}{s:Æ}
theorem s60{r t:È}{k:Nat}{vs:Array Ã}{x:Ã}{Q:Ã->Æ->Prop}(hr:s.heap.IsTupleIter r t k)(ht:s.heap.IsTuple t vs)(hx:vs[k]?=some x)
  (hQ:∀ h',h'.IsTupleIter r t (k + 1)->Þ0 r s.heap h'->Q x { s with heap:=h' }):Ô (Û P w) A (nextOf (.ref r)) Q E s:=by
 obtain⟨o,ho,hc,hd⟩:=id hr;obtain⟨ot,hot,_,nt,hdt⟩:=ht;unfold nextOf;refine Á (Å1 (name:=Â2 "__next__") hr.typeIs É3 (Ç6 É3 hr.typeIs Ý3 ?_ (Ý0 _)));show Ô _ _ (field (.ref r) 0 >>= _) _ _ s;refine Á (Â6 ho hd (x:=.ref t) rfl ?_);show Ô _ _ (if (Ä4 t == è)=true then _ else _) _ _ s;rw[if_neg (show ¬ ((Ä4 t == è)=true) from Í)];show Ô _ _ (field (.ref r) 1 >>= _) _ _ s;refine Á (Â6 ho hd (x:=.int k 0) rfl ?_);show Ô _ _ (seqItems? (.ref t) >>= _) _ _ s;refine Á (Ç5 hot hdt ?_);simp only[Á3,hx];refine Á (wpAny_setField ho hd (by simp) (Î ⟨x,rfl,Î (hQ _ ⟨_,Þ5 _ ho (Obj.isFreed_of_fields (Obj.data_mapFields hd _)),(Obj.cls_mapFields ..).trans hc,by rw[Obj.data_mapFields hd];simp[rawInt]⟩ (Ë6 ..))⟩))
theorem o40{r t:È}{k:Nat}{vs:Array Ã}{Q:Ã->Æ->Prop}(hh:A.handled=none)(hr:s.heap.IsTupleIter r t k)(ht:s.heap.IsTuple t vs)(hx:vs[k]?=none)
  (hE:∀ h' e,ò.ExtBut r s.heap h'->(∃ o,h'.get? e=some o/\o.cls=.type "StopIteration")->E (.ref e) { s with heap:=h' }):Ô (Û P w) A (nextOf (.ref r)) Q E s:=by
 obtain⟨o,ho,hc,hd⟩:=id hr;obtain⟨ot,hot,_,nt,hdt⟩:=ht;unfold nextOf;refine Á (Å1 (name:=Â2 "__next__") hr.typeIs É3 (Ç6 É3 hr.typeIs Ý3 ?_ (Ý0 _)));show Ô _ _ (field (.ref r) 0 >>= _) _ _ s;refine Á (Â6 ho hd (x:=.ref t) rfl ?_);show Ô _ _ (if (Ä4 t == è)=true then _ else _) _ _ s;rw[if_neg (show ¬ ((Ä4 t == è)=true) from Í)];show Ô _ _ (field (.ref r) 1 >>= _) _ _ s;refine Á (Â6 ho hd (x:=.int k 0) rfl ?_);show Ô _ _ (seqItems? (.ref t) >>= _) _ _ s;refine Á (Ç5 hot hdt ?_);simp only[Á3,hx];refine Á (Ï8 (Á (wpAny_setField ho hd (by simp) ?_)));show Ô _ _ (newExc (.type "StopIteration") [] >>= _) _ _ _
 refine Á ?_;simp only[newExc,newTuple];refine Á (À2 ?_ (by size_fits));refine Á (m:=firstArgMember _ _) (wpAny_of_eq (a:=è) (by first | rfl | (simp only[firstArgMember];rfl)) ?_)
 refine À2 ?_ (by size_fits);simp only[raiseNew];refine Á (wpAny_handled ?_)
 first | rw[show A.in1.handled=none from hh] | rw[hh]
 refine Á (Î (wpAny_throw (hE _ _ (((Ë6 ..).extBut.push _).push _) ⟨_,Ð _ rfl,rfl⟩)))
theorem x11{z TI TO i1 i2 l1 l2:È}{k:Nat}{xs ys:Array Ã}{x y a b:Ã}{Q:Option Ã->Æ->Prop}(D:ZipApart z TI TO i1 i2 l1 l2)(hz:Ð7 s.heap z TI TO .none)
  (hTI:Æ2 s.heap TI (.ref i1) (.ref i2)) (hTO:Æ2 s.heap TO a b) (h1:s.heap.IsTupleIter i1 l1 k) (h2:s.heap.IsTupleIter i2 l2 k) (hl1:s.heap.IsTuple l1 xs) (hl2:s.heap.IsTuple l2 ys)
  (hx:xs[k]?=some x) (hy:ys[k]?=some y)
  (hQ:∀ h',Ð7 h' z TI TO (rawInt s.heap.objs.size)->Æ2 h' TO x y->h'.IsTupleIter i1 l1 (k + 1)->h'.IsTupleIter i2 l2 (k + 1)->Æ2 h' s.heap.objs.size x y->h'.objs.size=s.heap.objs.size + 1 ->
   (∀ c o,c≠z->c≠TO->c≠i1->c≠i2->s.heap.get? c=some o->h'.get? c=some o)->Q (some (.ref s.heap.objs.size)) { s with heap:=h' }):Ô (Û P w) A (pyNext (.ref z)) Q E s:=by
 have hT:s.TypeIs (.ref z) "zip":=⟨_,hz,rfl⟩;unfold pyNext;refine Á (wpAny_attempt (Å1 (name:=Â2 "__next__") hT Ó5 (Ç6 Ó5 hT F.entry_zip_next ?_ (F.args_zip_next_1 _))));show Ô _ _ (field (.ref z) 2 >>= _) _ _ _;refine Á (Â6 hz rfl (x:=.bool false) rfl ?_);show Ô _ _ (field (.ref z) 3 >>= _) _ _ _;refine Á (Â6 hz rfl (x:=.ref TI) rfl ?_);refine Á (Ç5 hTI rfl ?_);show Ô _ _ (Ì2 (.ref z) >>= _) _ _ _;refine Á ?_;unfold Ì2;refine Á (Â6 hz rfl (x:=.none) rfl (Î ?_));simp only[if_true];refine Á (Ï8 (Á (Â6 hz rfl (x:=.ref TO) rfl (Á (È2 hz (by simp) λg1 z1 e1=>?_)))))
 replace z1:Ð7 g1 z TI TO .ellipsis:=z1
 refine Á ?_;simp only[List.zipIdx_cons,List.zipIdx_nil,Ì7,Õ5];refine Á (Á (Ù4 ?_));show Ô _ _ (nextOf (.ref i1) >>= _) _ _ _;refine Á (s60 (h1.extBut e1.extBut D.i1z) (hl1.extBut e1.extBut D.l1z) hx λg2 r2 e2=>Î ?_);have t2:Æ2 g2 TO a b:=e2.extBut _ _ D.TOi1 (e1.extBut _ _ D.TOz hTO);refine Á (Ç5 t2 rfl (Á (Ö3 t2 λg3 t3 e3=>?_)))
 replace t3:Æ2 g3 TO x b:=t3
 refine Á (wpAny_letGo (Î ?_));refine Á (Á (Ù4 ?_));show Ô _ _ (nextOf (.ref i2) >>= _) _ _ _;refine Á (s60 (((h2.extBut e1.extBut D.i2z).extBut e2.extBut D.i12.symm).extBut e3.extBut D.TOi2.symm) (((hl2.extBut e1.extBut D.l2z).extBut e2.extBut D.l2i1).extBut e3.extBut D.l2TO) hy λg4 r4 e4=>Î ?_);have t4:Æ2 g4 TO x b:=e4.extBut _ _ D.TOi2 t3;refine Á (Ç5 t4 rfl (Á (Ö3 t4 λg5 t5 e5=>?_)))
 replace t5:Æ2 g5 TO x y:=t5
 refine Á (wpAny_letGo (Î (Î ?_)));refine Á (Ç5 t5 rfl (Á (wpAny_newTuple ?_)));have sz:g5.objs.size=s.heap.objs.size:=by rw[e5.1,e4.1,e3.1,e2.1,e1.1]
 have z5:Ð7 g5 z TI TO .ellipsis:=e5.extBut _ _ D.TOz.symm (e4.extBut _ _ D.i2z.symm (e3.extBut _ _ D.TOz.symm (e2.extBut _ _ D.i1z.symm z1)));have kp:∀ c o,c≠z->c≠TO->c≠i1->c≠i2->s.heap.get? c=some o->g5.get? c=some o:=λc o c1 c2 c3 c4 e=>e5.extBut _ _ c2 (e4.extBut _ _ c4 (e3.extBut _ _ c2 (e2.extBut _ _ c3 (e1.extBut _ _ c1 e))));have r1:g5.IsTupleIter i1 l1 (k + 1):=((r2.extBut e3.extBut D.TOi1.symm).extBut e4.extBut D.i12).extBut e5.extBut D.TOi1.symm;have r5:g5.IsTupleIter i2 l2 (k + 1):=r4.extBut e5.extBut D.TOi2.symm;have zl:z < g5.objs.size:=å z5;show Ô _ _ (ownedTupleHandOut (.ref z) (.ref g5.objs.size) >>= _) _ _ _;refine Á ?_;unfold ownedTupleHandOut;have z6:Ð7 (g5.push { cls:=.type "tuple",data:=.seq #[x,y] }) z TI TO .ellipsis:=Ä _ z5;refine Á (È2 z6 (by simp) λg7 z7 e7=>?_)
 replace z7:Ð7 g7 z TI TO (rawInt g5.objs.size):=z7
 refine È2 z7 (by simp) λg8 z8 e8=>?_
 replace z8:Ð7 g8 z TI TO (rawInt g5.objs.size):=z8
 have up:∀ c o,c≠z->g5.get? c=some o->g8.get? c=some o:=λc o c1 e=>e8.extBut _ _ c1 (e7.extBut _ _ c1 (Ä _ e));have t8:Æ2 g8 g5.objs.size x y:=e8.extBut _ _ (ne_of_gt zl) (e7.extBut _ _ (ne_of_gt zl) (Ð _ rfl));have s8:g8.objs.size=g5.objs.size + 1:=by rw[e8.1,e7.1,Ê9]
 rw[sz] at z8 t8 s8;refine Î ⟨_,rfl,?_⟩;refine Î ?_;show Q (some (.ref g5.objs.size)) _;rw[sz];exact hQ g8 z8 (up _ _ D.TOz t5) (by obtain⟨o,ho,q⟩:=r1;exact⟨o,up _ o D.i1z ho,q⟩) (by obtain⟨o,ho,q⟩:=r5;exact⟨o,up _ o D.i2z ho,q⟩) t8 s8 λc o c1 c2 c3 c4 e=>up c o c1 (kp c o c1 c2 c3 c4 e)
theorem M71{z TI TO i1 i2 l1 l2:È}{k:Nat}{xs ys:Array Ã}{a b:Ã}{Q:Option Ã->Æ->Prop}(hh:A.handled=none)(D:ZipApart z TI TO i1 i2 l1 l2)(hz:Ð7 s.heap z TI TO .none)
  (hTI:Æ2 s.heap TI (.ref i1) (.ref i2)) (hTO:Æ2 s.heap TO a b) (h1:s.heap.IsTupleIter i1 l1 k) (h2:s.heap.IsTupleIter i2 l2 k) (hl1:s.heap.IsTuple l1 xs) (hl2:s.heap.IsTuple l2 ys)
  (hend:xs[k]?=none∨ys[k]?=none) (hQ:∀ h',(∀ c o,c≠z->c≠TO->c≠i1->c≠i2->s.heap.get? c=some o->h'.get? c=some o)->Q none { s with heap:=h' }):Ô (Û P w) A (pyNext (.ref z)) Q E s:=by
 have hT:s.TypeIs (.ref z) "zip":=⟨_,hz,rfl⟩;have fin:∀ (h':ò) (e:È),(∀ c o,c≠z->c≠TO->c≠i1->c≠i2->s.heap.get? c=some o->h'.get? c=some o)->(∃ o,h'.get? e=some o/\o.cls=.type "StopIteration") ->
   Ô (Û P w) A (isInstance (.ref e) (.type "StopIteration") >>= λb=>if b=true then pure none else throw (.ref e)) Q E { s with heap:=h' }:=λh' e kp he=>by
  obtain⟨o,ho,hc⟩:=he;exact Á (wpAny_isInstance (T:="StopIteration") (b:=true) ⟨o,ho,hc⟩ isSubtype_stop (Î (hQ _ kp)))
 unfold pyNext;refine Á (wpAny_attempt (Å1 (name:=Â2 "__next__") hT Ó5 (Ç6 Ó5 hT F.entry_zip_next ?_ (F.args_zip_next_1 _))));show Ô _ _ (field (.ref z) 2 >>= _) _ _ _;refine Á (Â6 hz rfl (x:=.bool false) rfl ?_);show Ô _ _ (field (.ref z) 3 >>= _) _ _ _;refine Á (Â6 hz rfl (x:=.ref TI) rfl ?_);refine Á (Ç5 hTI rfl ?_);show Ô _ _ (Ì2 (.ref z) >>= _) _ _ _;refine Á ?_;unfold Ì2;refine Á (Â6 hz rfl (x:=.none) rfl (Î ?_));simp only[if_true];refine Á (Ï8 (Á (Â6 hz rfl (x:=.ref TO) rfl (Á (È2 hz (by simp) λg1 z1 e1=>?_)))))
 replace z1:Ð7 g1 z TI TO .ellipsis:=z1
 refine Á ?_;simp only[List.zipIdx_cons,List.zipIdx_nil,Ì7,Õ5];refine Á (Á (Ù4 ?_));show Ô _ _ (nextOf (.ref i1) >>= _) _ _ _;cases hx:xs[k]? with
 |none =>
  refine Á (o40 hh (h1.extBut e1.extBut D.i1z) (hl1.extBut e1.extBut D.l1z) hx λg2 e e2 he=>?_);obtain⟨oe,hoe,hce⟩:=he;have z2:Ð7 g2 z TI TO .ellipsis:=e2 _ _ D.i1z.symm z1;have hez:e≠z:=λq=>by subst q;rw[z2] at hoe;cases hoe;simp at hce
  exact È2 z2 (by simp) λg3 _ e3=>fin g3 e (λc o c1 _ c3 _ q=>e3.extBut _ _ c1 (e2 _ _ c3 (e1.extBut _ _ c1 q))) ⟨oe,e3.extBut _ _ hez hoe,hce⟩
 |some x =>
  have hy:ys[k]?=none:=by rcases hend with q | q;rw[hx] at q;cases q;exact q
  refine Á (s60 (h1.extBut e1.extBut D.i1z) (hl1.extBut e1.extBut D.l1z) hx λg2 r2 e2=>Î ?_);have t2:Æ2 g2 TO a b:=e2.extBut _ _ D.TOi1 (e1.extBut _ _ D.TOz hTO);refine Á (Ç5 t2 rfl (Á (Ö3 t2 λg3 t3 e3=>?_)));refine Á (wpAny_letGo (Î ?_));refine Á (Á (Ù4 ?_));show Ô _ _ (nextOf (.ref i2) >>= _) _ _ _;refine Á (o40 hh (((h2.extBut e1.extBut D.i2z).extBut e2.extBut D.i12.symm).extBut e3.extBut D.TOi2.symm) (((hl2.extBut e1.extBut D.l2z).extBut e2.extBut D.l2i1).extBut e3.extBut D.l2TO) hy λg4 e e4 he=>?_);obtain⟨oe,hoe,hce⟩:=he;have z4:Ð7 g4 z TI TO .ellipsis:=e4 _ _ D.i2z.symm (e3.extBut _ _ D.TOz.symm (e2.extBut _ _ D.i1z.symm z1));have hez:e≠z:=λq=>by subst q;rw[z4] at hoe;cases hoe;simp at hce
  exact È2 z4 (by simp) λg5 _ e5=>fin g5 e (λc o c1 c2 c3 c4 q=>e5.extBut _ _ c1 (e4 _ _ c4 (e3.extBut _ _ c2 (e2.extBut _ _ c3 (e1.extBut _ _ c1 q))))) ⟨oe,e5.extBut _ _ hez hoe,hce⟩
abbrev zT1(h:ò)(l1:È):Heap:=h.push { cls:=.type "tuple_iterator",data:=.fields #[.ref l1,.int 0 0] }
abbrev zT2(h:ò)(l1 l2:È):Heap:=(zT1 h l1).push { cls:=.type "tuple_iterator",data:=.fields #[.ref l2,.int 0 0] }
abbrev zT3(h:ò)(l1 l2:È):Heap:=(zT2 h l1 l2).push { cls:=.type "tuple",data:=.seq #[.ref h.objs.size,.ref (zT1 h l1).objs.size] }
abbrev zT4(h:ò)(l1 l2:È):Heap:=(zT3 h l1 l2).push { cls:=.type "tuple",data:=.seq #[.none,.none] }
abbrev zT5(h:ò)(l1 l2:È):Heap:=(zT4 h l1 l2).push { cls:=.type "zip",data:=.fields #[.none,.bool false,.bool false,.ref (zT2 h l1 l2).objs.size,.ref (zT3 h l1 l2).objs.size] }
theorem q71(l1 l2:È)(xs ys:Array Ã) :
  Meets (Å6.«zip.__new__» ⟨[.type "zip",.ref l1,.ref l2],[]⟩) (λ_ R s=>s.heap.IsTuple l1 xs/\s.heap.IsTuple l2 ys/\R (.ok (.ret (.ref (zT4 s.heap l1 l2).objs.size))) { s with heap:=zT5 s.heap l1 l2 }) :=
 .of_wp λP w A R s h=>by
  obtain⟨hp,g,d,tk,os⟩:=s;obtain⟨hl1,hl2,h⟩:=h;have hsub:=sub_zip;have hL1:Ñ8 (Æ.heap ⟨hp,g,d,tk,os⟩) l1 xs:=hl1;have hL2:Ñ8 (Æ.heap ⟨hp.push { cls:=.type "tuple_iterator",data:=.fields #[.ref l1,.int 0 0] },g,d,tk,os⟩) l2 ys:=Ñ8.push hl2 _
  wp_walk using Ë5 hL1,Ë5 hL2
  exact⟨_,rfl,h⟩
theorem x21{l1 l2:È}{xs ys:Array Ã}{Q:Ã->Æ->Prop}(hl1:s.heap.IsTuple l1 xs)(hl2:s.heap.IsTuple l2 ys)
  (h:∀ h',Ð7 h' (s.heap.objs.size + 4) (s.heap.objs.size + 2) (s.heap.objs.size + 3) .none->Æ2 h' (s.heap.objs.size + 2) (.ref s.heap.objs.size) (.ref (s.heap.objs.size + 1))->Æ2 h' (s.heap.objs.size + 3) .none .none ->
   h'.IsTupleIter s.heap.objs.size l1 0->h'.IsTupleIter (s.heap.objs.size + 1) l2 0->(∀ c o,s.heap.get? c=some o->h'.get? c=some o)->Q (.ref (s.heap.objs.size + 4)) { s with heap:=h' }) :
  Ô (Û P w) A (call (.type "zip") [.ref l1,.ref l2]) Q E s:=by
 refine callType_new F.called_zip (-0) (F.typeCall_zip_2 _ _) (F.newCall_zip_2 _ _) (λobj=>F.args_object_init_3 obj _ _) F.entry_zip_new (q71 l1 l2 xs ys) ⟨hl1,hl2,?_⟩
 have n1:(zT1 s.heap l1).objs.size=s.heap.objs.size + 1:=Ê9 ..;have n2:(zT2 s.heap l1 l2).objs.size=s.heap.objs.size + 2:=by rw[Ê9,n1]
 have n3:(zT3 s.heap l1 l2).objs.size=s.heap.objs.size + 3:=by rw[Ê9,n2]
 have n4:(zT4 s.heap l1 l2).objs.size=s.heap.objs.size + 4:=by rw[Ê9,n3]
 have g5:(zT5 s.heap l1 l2).get? (zT4 s.heap l1 l2).objs.size=some _:=Ð _ rfl;have g4:(zT5 s.heap l1 l2).get? (zT3 s.heap l1 l2).objs.size=some _:=Ä _ (Ð _ rfl);have g3:(zT5 s.heap l1 l2).get? (zT2 s.heap l1 l2).objs.size=some _:=Ä _ (Ä _ (Ð _ rfl));have g2:(zT5 s.heap l1 l2).get? (zT1 s.heap l1).objs.size=some _:=Ä _ (Ä _ (Ä _ (Ð _ rfl)));have g1:(zT5 s.heap l1 l2).get? s.heap.objs.size=some _:=Ä _ (Ä _ (Ä _ (Ä _ (Ð _ rfl))));show _/\_;rw[n2,n3,n4] at g5;rw[n1,n2] at g3;rw[n3] at g4;rw[n1] at g2;rw[n4];exact⟨⟨_,g5,rfl⟩,h _ g5 g3 g4 ⟨_,g1,rfl,rfl⟩ ⟨_,g2,rfl,rfl⟩ λc o q=>Ä _ (Ä _ (Ä _ (Ä _ (Ä _ q))))⟩
end
open PySem PySem.Spec PyProof.Rows
section
variable {X:Cx}{pins:List (È × Obj)}{σ:St}{H:Hp}{s:Æ}{h':ò}
theorem Inv.N80{t':Nat}{ch:List È}(I:Inv X pins σ H s)(hf:∀ b∈ch,i21 X pins H b)(k:∀ b o,b ∉ ch->s.heap.get? b=some o->h'.get? b=some o):Inv X pins σ H { s with heap:=h',toks:=t' }:=by
 have nch:∀ b u,H b=some u->b ∉ ch:=λb u e z=>by rw[(hf b z).1] at e;cases e
 refine I.step (g':=s.gens) (d':=s.drawn) (ch:=ch) (λb hb=>⟨(hf b hb).2.2.2.1,(hf b hb).2.1,(hf b hb).2.2.2.2.1,(hf b hb).2.2.2.2.2⟩) (λb o _ _ hc e _=>k b o hc e) (λb o _ _ hc e _=>⟨o.slots,k b o hc e⟩) (λ_ _ _ _ n=>n)
  (λb o hc e=>⟨o,k b o hc e⟩) (λ_ _ e=>e) (λ_ _ _ e=>e) (λb ps e=>⟨#[],by rw[e];simp⟩) (λm hm=>?_) (λb u e=>?_) I.bare
 ·obtain⟨o,es,ep,ho,r⟩:=hm;exact⟨o,es,ep,k _ o (λz=>(hf _ z).2.1 rfl) ho,r⟩
 ·refine(I.hok b u e).L01 (λc v hc q=>k c v ?_ q) (λ_ q=>q) λ_ _ q=>q;rcases hc with z | z
  ·rw[z];exact nch b u e
  ·exact nch c _ z
theorem Inv.M51{T:È}{o:HO}(I:Inv X pins σ H s)(f:i21 X pins H T)(h0:X.s₀.heap.objs.size<=T)(hok:HOk X.prog X.w (upd H T o) s.heap):Inv X pins σ (upd H T o) s:=by
 have u:=I.base;refine⟨I.ok,I.os,I.bare,⟨u.keep,u.slot,λb ob e n hx=>?_,u.there,λb xs e=>?_,λb ob xs e=>?_,λb ps e=>?_⟩,I.loc,I.cell,?_,λx c e=>?_,λp hp=>?_,hok,I.len⟩
 ·rw[a80 (ß (Ý (å e) h0))];exact u.free b ob e n hx
 ·have z:=u.tups b xs e;rw[a80 (c00 z f.1)];exact z
 ·have z:=u.frzs b ob xs e;rw[a80 (c00 z f.1)];exact z
 ·obtain⟨more,z⟩:=u.tbls b ps e;exact⟨more,by rw[a80 (c00 z f.1)];exact z⟩
 ·rw[a80 f.2.1.symm];exact I.free
 ·rw[a80 (f.2.2.2.2.1 x c e)];exact I.freeC x c e
 ·obtain⟨e,n,r⟩:=I.pin p hp;exact⟨e,by rw[a80 (f.2.2.2.2.2 p hp)];exact n,r⟩
theorem HOk.W21{P:ç}{w:ø}{H:Hp}{h:ò}{D:È}{ys:List V}{its:List Ã}(x:HOk P w H h)(hn:H D=none)(hv:Vals ys its)(hz:ys.length<=sizeLine)(ho:Ï1 h D its.toArray):HOk P w (upd H D (.tup ys)) h:=λb u e=>by
 by_cases hb:b=D
 ·subst hb;rw[d10] at e;cases e;exact⟨hz,its,hv,ho⟩
 ·rw[a80 hb] at e;exact(x b u e).L01 (λc v _ q=>q) (λc q=>by rw[a80 (c00 q hn)];exact q) λc xs q=>by rw[a80 (c00 q hn)];exact q
end
def SqB:Bool->Â->Hp->È->List V->Prop
 |true=>SqL|false=>SqT
def V90:Bool->ò->È->È->Nat->Prop
 |true=>ò.IsListIter|false=>ò.IsTupleIter
def M81:Bool->ò->È->Array Ã->Prop
 |true=>ò.IsList|false=>Ñ8
theorem V90.obj{b:Bool}{h:ò}{it a:È}{i:Nat}(st:V90 b h it a i):∃ o,h.get? it=some o/\(∀ v,o.data=.cell v->False)/\∀ h':ò,h'.get? it=some o->V90 b h' it a i:=by
 cases b with
 |true=>obtain⟨o,g,c,d⟩:=st;exact⟨o,g,(λv e=>by rw[d] at e;cases e),λh' k=>⟨o,k,c,d⟩⟩
 |false=>obtain⟨o,g,c,d⟩:=st;exact⟨o,g,(λv e=>by rw[d] at e;cases e),λh' k=>⟨o,k,c,d⟩⟩
theorem Inv.M91(I:Inv X pins σ H s)(h:SqB b X.K H a xs):∃ its:List Ã,Vals xs its/\M81 b s.heap a its.toArray/\a < s.heap.objs.size/\∀ ys,SqB b X.K H a ys->ys=xs:=by
 cases b with
 |true=>obtain⟨its,r,p,_⟩:=I.list h;exact⟨its,r,p.isList,by obtain⟨o,e,_⟩:=p.isList;exact å e,λys h'=>I.i01 h' h⟩
 |false=>obtain⟨its,r,p,_⟩:=I.tuple h;exact⟨its,r,p,by obtain⟨o,e,_⟩:=p;exact å e,λys h'=>I.U30 h' h⟩
section
variable {P:ç}{w:ø}{A:ý}{E:Ã->Æ->Prop}{s:Æ}{b:Bool}{z TI TO i1 i2 l1 l2:È}{k:Nat}{xs ys:Array Ã}{x y p q:Ã}
theorem x31{Q:Option Ã->Æ->Prop}(D:ZipApart z TI TO i1 i2 l1 l2)(hz:Ð7 s.heap z TI TO .none)(hTI:Æ2 s.heap TI (.ref i1) (.ref i2))(hTO:Æ2 s.heap TO p q)(h1:V90 b s.heap i1 l1 k)(h2:V90 b s.heap i2 l2 k)(hl1:M81 b s.heap l1 xs)(hl2:M81 b s.heap l2 ys)(hx:xs[k]?=some x)(hy:ys[k]?=some y)
  (hQ:∀ h',Ð7 h' z TI TO (rawInt s.heap.objs.size)->Æ2 h' TO x y->V90 b h' i1 l1 (k + 1)->V90 b h' i2 l2 (k + 1)->Æ2 h' s.heap.objs.size x y->h'.objs.size=s.heap.objs.size + 1 ->
   (∀ c o,c≠z->c≠TO->c≠i1->c≠i2->s.heap.get? c=some o->h'.get? c=some o)->Q (some (.ref s.heap.objs.size)) { s with heap:=h' }):Ô (Û P w) A (pyNext (.ref z)) Q E s:=match b,h1,h2,hl1,hl2,hQ with
 |true,h1,h2,hl1,hl2,hQ=>wpAny_pyNext_zip_item D hz hTI hTO h1 h2 hl1 hl2 hx hy hQ|false,h1,h2,hl1,hl2,hQ=>x11 D hz hTI hTO h1 h2 hl1 hl2 hx hy hQ
theorem N01{Q:Option Ã->Æ->Prop}(hh:A.handled=none)(D:ZipApart z TI TO i1 i2 l1 l2)(hz:Ð7 s.heap z TI TO .none)(hTI:Æ2 s.heap TI (.ref i1) (.ref i2))(hTO:Æ2 s.heap TO p q)(h1:V90 b s.heap i1 l1 k)(h2:V90 b s.heap i2 l2 k)(hl1:M81 b s.heap l1 xs)(hl2:M81 b s.heap l2 ys)
  (hend:xs[k]?=none∨ys[k]?=none) (hQ:∀ h',(∀ c o,c≠z->c≠TO->c≠i1->c≠i2->s.heap.get? c=some o->h'.get? c=some o)->Q none { s with heap:=h' }):Ô (Û P w) A (pyNext (.ref z)) Q E s:=match b,h1,h2,hl1,hl2 with
 |true,h1,h2,hl1,hl2=>wpAny_pyNext_zip_end hh D hz hTI hTO h1 h2 hl1 hl2 hend hQ|false,h1,h2,hl1,hl2=>M71 hh D hz hTI hTO h1 h2 hl1 hl2 hend hQ
theorem x41{Q:Ã->Æ->Prop}(hl1:M81 b s.heap l1 xs)(hl2:M81 b s.heap l2 ys)
  (h:∀ h',Ð7 h' (s.heap.objs.size + 4) (s.heap.objs.size + 2) (s.heap.objs.size + 3) .none->Æ2 h' (s.heap.objs.size + 2) (.ref s.heap.objs.size) (.ref (s.heap.objs.size + 1))->Æ2 h' (s.heap.objs.size + 3) .none .none ->
   V90 b h' s.heap.objs.size l1 0->V90 b h' (s.heap.objs.size + 1) l2 0->(∀ c o,s.heap.get? c=some o->h'.get? c=some o)->Q (.ref (s.heap.objs.size + 4)) { s with heap:=h' }):Ô (Û P w) A (call (.type "zip") [.ref l1,.ref l2]) Q E s:=match b,hl1,hl2,h with
 |true,hl1,hl2,h=>call_zip_2 hl1 hl2 λh' a1 a2 a3 a4 a5 _ a6=>h h' a1 a2 a3 a4 a5 a6|false,hl1,hl2,h=>x21 hl1 hl2 h
end
def Itz(b:Bool)(K:Â)(a c:È):It :=
 ⟨λi H=>∃ xs ys x y,SqB b K H a xs/\SqB b K H c ys/\xs[i]?=some x/\ys[i]?=some y,
  λi H v H'=>∃ T,v=.ref T/\H T=none/\∀ xs ys x y,SqB b K H a xs->SqB b K H c ys->xs[i]?=some x->ys[i]?=some y->H'=upd H T (.tup [x,y]),
  λi H=>∃ xs ys,SqB b K H a xs/\SqB b K H c ys/\(xs.length<=i∨ys.length<=i)⟩
theorem N11{P:ç}{w:ø}{K:Â}{es:List Ò}{ek:Nat}{ep:Pos}{b:Bool}{a c z TI TO i1 i2:È}(D:ZipApart z TI TO i1 i2 a c) :
  Turn P w K (.Tuple es ek ep) (Itz b K a c) [z,TI,TO,i1,i2] z (λi h=>Ð7 h z TI TO .none/\Æ2 h TI (.ref i1) (.ref i2)/\(∃ p q,Æ2 h TO p q)/\V90 b h i1 a i/\V90 b h i2 c i) where
 mem:=by simp
 obj:=λi h st c hc=>by
  obtain⟨hz,hTI,⟨p,q,hTO⟩,h1,h2⟩:=st;obtain⟨o1,h1,d1,_⟩:=h1.obj;obtain⟨o2,h2,d2,_⟩:=h2.obj;simp only[Á8,Ã1,or_false] at hc;rcases hc with rfl | rfl | rfl | rfl | rfl
  ·exact⟨_,hz,λv e=>by cases e⟩
  ·exact⟨_,hTI,λv e=>by cases e⟩
  ·exact⟨_,hTO,λv e=>by cases e⟩
  ·exact⟨_,h1,d1⟩
  ·exact⟨_,h2,d2⟩
 keep:=λi h h' st k=>by
  obtain⟨hz,hTI,⟨p,q,hTO⟩,h1,h2⟩:=st;obtain⟨o1,h1,_,r1⟩:=h1.obj;obtain⟨o2,h2,_,r2⟩:=h2.obj;exact⟨k z (by simp) _ hz,k TI (by simp) _ hTI,⟨p,q,k TO (by simp) _ hTO⟩,r1 _ (k i1 (by simp) _ h1),r2 _ (k i2 (by simp) _ h2)⟩
 item:=by
  intro X hP hw hK hc i pins s σ H E I hf st hg;subst hP hw hK;obtain⟨xs,ys,x,y,hq1,hq2,hx,hy⟩:=hg;obtain⟨v1,rv1,p1,_,z1⟩:=I.M91 hq1;obtain⟨v2,rv2,p2,_,z2⟩:=I.M91 hq2;obtain⟨u1,hu1,ru1⟩:=rv1.get hx;obtain⟨u2,hu2,ru2⟩:=rv2.get hy;obtain⟨hz,hTI,⟨p,q,hTO⟩,h1,h2⟩:=st;refine x31 D hz hTI hTO h1 h2 p1 p2 (x:=u1) (y:=u2) (by simpa using hu1) (by simpa using hu2) λg1 gz gTO g1' g2' gT gs kp=>⟨_,rfl,?_⟩
  refine wpAny_letOwnedTupleGo_zip (s:={ s with heap:=g1 }) gz λg2 gz2 sb=>?_;have hT:H s.heap.objs.size=none:=I.hok.fresh (Ê _);have kall:∀ c o,c ∉ [z,TI,TO,i1,i2]->s.heap.get? c=some o->g2.get? c=some o:=λc o hc e=>by
   simp only[Á8,Ã1,or_false,not_or] at hc;exact sb.extBut _ _ hc.1 (kp c o hc.1 hc.2.2.1 hc.2.2.2.1 hc.2.2.2.2 e)
  have I2:Inv X pins σ H { s with heap:=g2 }:=I.N80 (t':=s.toks) hf kall;have fT:i21 X pins H s.heap.objs.size:=I.u31 (Ê _) hT;have gT2:g2.get? s.heap.objs.size=some { cls:=.type "tuple",data:=.seq #[u1,u2] }:=sb.extBut _ _ (λe=>À1 _ (by have:=å hz;rw[← e] at this;exact this)) gT
  have I3:Inv X pins σ (upd H s.heap.objs.size (.tup [x,y])) { s with heap:=g2 }:=I2.M51 fT I.sz (I2.hok.W21 hT (its:=[u1,u2]) (.cons ru1 (.cons ru2 .nil)) (by show 2<=sizeLine;rw[Â7];decide) ⟨_,gT2,rfl,_,rfl⟩)
  have TI0:Æ2 g2 TI (.ref i1) (.ref i2):=sb.extBut _ _ D.TIz (kp _ _ D.TIz D.TITO D.TIi1 D.TIi2 hTI);obtain⟨o1,w1,_,r1⟩:=g1'.obj;obtain⟨o2,w2,_,r2⟩:=g2'.obj;refine⟨.ref s.heap.objs.size,_,I3,rfl,⟨_,rfl,hT,λxs' ys' x' y' e1 e2 e3 e4=>?_⟩,⟨gz2,TI0,⟨_,_,sb.extBut _ _ D.TOz gTO⟩,r1 _ (sb.extBut _ _ D.i1z w1),r2 _ (sb.extBut _ _ D.i2z w2)⟩,λc hc=>?_⟩
  ·rw[z1 _ e1] at e3;rw[z2 _ e2] at e4;rw[hx] at e3;rw[hy] at e4;cases e3;cases e4;rfl
  ·rw[a80]
   ·exact(hf c hc).1
   ·intro e;obtain⟨o1,h1,_⟩:=h1.obj;obtain⟨o2,h2,_⟩:=h2.obj;have lt:c < s.heap.objs.size:=by
     simp only[Á8,Ã1,or_false] at hc;rcases hc with rfl | rfl | rfl | rfl | rfl
     ·exact å hz
     ·exact å hTI
     ·exact å hTO
     ·exact å h1
     ·exact å h2
    rw[e] at lt;exact À1 _ lt
 done:=by
  intro X hP hw hK hc i pins s σ H E I hf st hg;subst hP hw hK;obtain⟨xs,ys,hq1,hq2,hend⟩:=hg;obtain⟨v1,rv1,p1,_⟩:=I.M91 hq1;obtain⟨v2,rv2,p2,_⟩:=I.M91 hq2;obtain⟨hz,hTI,⟨p,q,hTO⟩,h1,h2⟩:=st;have l1:=rv1.length;have l2:=rv2.length;refine N01 (I.ok.hd hc) D hz hTI hTO h1 h2 p1 p2 (hend.elim (λe=>.inl (by simp;omega)) λe=>.inr (by simp;omega)) λg kp=>⟨rfl,I.N80 (t':=s.toks) hf λc o hcn e=>?_⟩
  simp only[Á8,Ã1,or_false,not_or] at hcn;exact kp c o hcn.1 hcn.2.2.1 hcn.2.2.2.1 hcn.2.2.2.2 e
 self:=λ_ _ _ _ _ st h=>wpAny_pyIter_zip st.1 h
def W22(K:Â)(ta:TA):TI:=λσ H R=>ta σ H λvs H1=>∃ b a c,vs=[.ref a,.ref c]/\(∃ xs,SqB b K H1 a xs)/\(∃ ys,SqB b K H1 c ys)/\R (Itz b K a c) H1
theorem boot_zip:î "zip"=some (.type "zip"):=by decide +kernel
theorem u32{X:Cx}{a b:Ò}{es:List Ò}{ek:Nat}{ep:Pos}{ta:TA}{p pos:Pos}(hg:Gl X "zip")(hm:X.mg "zip"=none)(ha:PA X [a,b] ta)(hs:þ [a,b] X.env=[(false,eval a X.env),(false,eval b X.env)]:=by rfl)(hs2:þ [b] X.env=[(false,eval b X.env)]:=by rfl) :
  PI X (.Tuple es ek ep) (.Call (.Name "zip" p) [a,b] [] pos) (W22 X.K ta):=by
 intro pins s σ H R I h;refine Call_ (x00 I hg hm boot_zip (À5 (thn (ha pos pins s σ H _ I h) λus s1 ⟨vs,H1,I1,r1,q1⟩=>?_) (by rw[hs,hs2]) (by rw[hs2];rfl)))
 obtain⟨b,l1,l2,e,⟨xs,hq1⟩,⟨ys,hq2⟩,q⟩:=q1;subst e;obtain⟨u,w',rfl,r,r'⟩:=vals2 r1;cases r;cases r';obtain⟨v1,rv1,p1,a1,_⟩:=I1.M91 hq1;obtain⟨v2,rv2,p2,a2,_⟩:=I1.M91 hq2;refine x41 p1 p2 λh' hz hTI hTO h1 h2 kp=>wpAny_pyIter_zip (s:={ s1 with heap:=h' }) hz ?_;refine⟨_,[s1.heap.objs.size + 4,s1.heap.objs.size + 2,s1.heap.objs.size + 3,s1.heap.objs.size,s1.heap.objs.size + 1],_,_,H1,rfl,I1.kept (t':=s1.toks) kp,N11 (PyProof.Rows.zipApart_new a1 a2),⟨hz,hTI,⟨_,_,hTO⟩,h1,h2⟩,λc hc=>?_,q⟩;have hc':s1.heap.objs.size<=c:=by
  simp only[Á8,Ã1,or_false] at hc;rcases hc with rfl | rfl | rfl | rfl | rfl
  ·exact É5 _ 4
  ·exact É5 _ 2
  ·exact É5 _ 3
  ·exact Ê _
  ·exact É5 _ 1
 exact I1.u31 hc' (I1.hok.fresh hc')
theorem N21(hc:X.calm=true):h00 X (.builtin "all") (λxs H Q=>∃ (a:È) (bs:List Bool),xs=[.ref a]/\SqL X.K H a (bs.map V.bl)/\Q (.bl (bs.all id)) H):=by
 intro pins s σ H xs us Q I r h;obtain⟨a,bs,rfl,hq,q⟩:=h;obtain⟨u,rfl,rx⟩:=vals1 r;cases rx;obtain⟨its,rv,pl,hz⟩:=I.list hq;have hlt:a < s.heap.objs.size:=by obtain⟨_,e,_⟩:=pl.isList;exact å e
 have hlen:its.length=bs.length:=by have:=rv.length;simpa using this.symm
 refine call_all_walk (Ñ6 pl.isList ⟨_,_,_,_,_,_,λi=>(bs[i]?).getD true,rfl,Walks.list (by exact I.ok.hd hc) s.heap.objs.size a (ß hlt) its.toArray,⟨⟨_,Ð _ rfl,rfl,rfl⟩,pl.isList.push _⟩,?_,?_⟩)
 ·intro i v s' Q' E' hP hQ;have hP':its[i]?=some v:=by simpa using hP
  have hi:i < bs.length:=by rw[← hlen];exact(Þ.mp hP').1
  obtain⟨v',hv',rv'⟩:=rv.get (i:=i) (x:=.bl bs[i]) (by simp[hi])
  rw[hP'] at hv';cases hv';cases (show v=È8 _ from rv');exact À8 (by simpa [hi] using hQ)
 ·intro h' tk kp;refine⟨.bl (bs.all id),H,I.kept λb o e=>kp b o (by simpa using ß (å e)) (Ä _ e),?_,q⟩
  show È8 _=È8 _;rw[Ö,hlen,PyProof.Rows.LSm.range_all]
end L2
namespace MySort
open PySem PySem.W PyProof.Rows
def run{α:Type}(cmp:Nat->Nat->Bool):KasT α->α
 |.ret a=>a|.ask i j k=>run cmp (k (cmp i j))
theorem run_bind(cmp:Nat->Nat->Bool)(f:α->KasT β):∀ t:KasT α,run cmp (t.bind f)=run cmp (f (run cmp t))
 |.ret _=>rfl|.ask i j k=>run_bind cmp f (k (cmp i j))
section
variable (O:KeyOrd) (key:Nat->O.α)
def kk(p:Array Nat)(i:Nat):O.α:=key (p.getD i 0)
abbrev m90:Nat->Nat->Bool:=λi j=>O.blt (key i) (key j)
def Up(p:Array Nat)(n:Nat):Prop:=∀ i j,i<=j->j < n->O.kle (kk O key p i) (kk O key p j)
def Dn(p:Array Nat)(n:Nat):Prop:=∀ i j,i<=j->j < n->O.kle (kk O key p j) (kk O key p i)
variable {O key}
theorem x10(h:p[i]?=q[j]?):kk O key p i=kk O key q j:=by
 unfold kk;rw[Å9,Å9,h]
theorem x51(hj:j<=p.size)(k:Nat):kk O key (È3 p i j) k=if i<=k/\k < j then kk O key p (i + j - 1 - k) else kk O key p k:=by
 have e:=getElem?_mirror_all (i:=i) hj k;unfold È3;by_cases h1:i<=k/\k < j
 ·rw[if_pos h1] at e ⊢;exact x10 e
 ·rw[if_neg h1] at e ⊢;exact x10 e
theorem u42(hs:k < p.size)(hd:d<=k)(i:Nat) :
  kk O key (bubble p k d) i=if i=k - d then kk O key p k else if k - d < i/\i<=k then kk O key p (i - 1) else kk O key p i:=by
 have e:=getElem?_bubble hs d hd i;by_cases h1:i=k - d
 ·rw[if_pos h1] at e ⊢;exact x10 e
 ·rw[if_neg h1] at e ⊢;by_cases h2:k - d < i/\i<=k
  ·rw[if_pos h2] at e ⊢;exact x10 e
  ·rw[if_neg h2] at e ⊢;exact x10 e
theorem Up.more(h:Up O key p n)(h1:1<=n)(hl:O.kle (kk O key p (n - 1)) (kk O key p n)):Up O key p (n + 1):=by
 intro i j hij hj;by_cases e:j=n
 ·subst e;by_cases e2:i=j
  ·subst e2;exact Ç4 _
  ·exact Ø8 (h i (j - 1) ∅ ∅) hl
 ·exact h i j hij ∅
theorem Dn.more(h:Dn O key p n)(h1:1<=n)(hl:O.kle (kk O key p n) (kk O key p (n - 1))):Dn O key p (n + 1):=by
 intro i j hij hj;by_cases e:j=n
 ·subst e;by_cases e2:i=j
  ·subst e2;exact Ç4 _
  ·exact Ø8 hl (h i (j - 1) ∅ ∅)
 ·exact h i j hij ∅
theorem x61:∀ (f n:Nat),1<=n->Up O key p n ->
  n<=run (m90 O key) (Ç3 p f n)/\run (m90 O key) (Ç3 p f n)<=n + f/\Up O key p (run (m90 O key) (Ç3 p f n)) /\
   (run (m90 O key) (Ç3 p f n) < n + f->O.klt (kk O key p (run (m90 O key) (Ç3 p f n))) (kk O key p (run (m90 O key) (Ç3 p f n) - 1)))
 |0,n,h1,hu=>⟨Ê _,Ê _,hu,λh=>absurd h (À1 _)⟩
 |f + 1,n,h1,hu=>by
  show n<=run _ (if O.blt (kk O key p n) (kk O key p (n - 1))=true then Ñ3 n else Ç3 p f (n + 1))/\run _ (if O.blt (kk O key p n) (kk O key p (n - 1))=true then Ñ3 n else Ç3 p f (n + 1))<=n + (f + 1) /\
   Up O key p (run _ (if O.blt (kk O key p n) (kk O key p (n - 1))=true then Ñ3 n else Ç3 p f (n + 1))) /\
   (run _ (if O.blt (kk O key p n) (kk O key p (n - 1))=true then Ñ3 n else Ç3 p f (n + 1)) < n + (f + 1) ->
    O.klt (kk O key p (run _ (if O.blt (kk O key p n) (kk O key p (n - 1))=true then Ñ3 n else Ç3 p f (n + 1)))) (kk O key p (run _ (if O.blt (kk O key p n) (kk O key p (n - 1))=true then Ñ3 n else Ç3 p f (n + 1)) - 1)))
  cases hb:O.blt (kk O key p n) (kk O key p (n - 1)) with
  |true =>
   simp only[if_true];exact⟨Ê _,by show n<=n + (f + 1);omega,hu,λ_=>hb⟩
  |false =>
   simp only[Ê2,if_false];have ih:=x61 f (n + 1) ∅ (hu.more h1 hb)
   refine⟨by omega,by omega,ih.2.2.1,λh=>ih.2.2.2 ∅⟩
theorem rev_eq(hj:j<=p.size)(he:∀ k,i<=k->k < j->kk O key p k=kk O key p (j - 1))(k:Nat):kk O key (È3 p i j) k=kk O key p k:=by
 rw[x51 hj];split
 ·rw[he _ ∅ ∅,he k ∅ ∅]
 ·rfl
theorem N90(p:Array Nat)(i j:Nat):(È3 p i j).Perm p:=mirror_perm _ _ _ _
theorem O00(p:Array Nat)(i j:Nat):(È3 p i j).size=p.size:=mirror_size _ _ _ _
structure DnR(O:KeyOrd)(key:Nat->O.α)(p0 p:Array Nat)(n q:Nat):Prop where
 perm:p.Perm p0
 size:p.size=p0.size
 pos:q + 1<=n
 dn:Dn O key p n
 eq:∀ k,n - (q + 1)<=k->k < n->kk O key p k=kk O key p (n - 1)
theorem DnR.rev(h:DnR O key p0 p n q)(hn:n<=p0.size):DnR O key p0 (È3 p (n - (q + 1)) n) n q:=by
 have hz:=h.size;have e:=rev_eq (O:=O) (key:=key) (i:=n - (q + 1)) (j:=n) (p:=p) ∅ h.eq
 exact⟨(N90 _ _ _).trans h.perm,(O00 _ _ _).trans hz,h.pos,λi j hij hj=>by rw[e,e];exact h.dn i j hij hj,λk h1 h2=>by rw[e,e];exact h.eq k h1 h2⟩
theorem c41:∀ (f:Nat) (p:Array Nat) (n q:Nat),DnR O key p0 p n q->n + f<=p0.size ->
  n<=(run (m90 O key) (Â8 f p n q)).2.1/\(run (m90 O key) (Â8 f p n q)).2.1<=n + f /\
   DnR O key p0 (run (m90 O key) (Â8 f p n q)).1 (run (m90 O key) (Â8 f p n q)).2.1 (run (m90 O key) (Â8 f p n q)).2.2
 |0,p,n,q,h,_=>⟨Ê _,Ê _,h⟩
 |f + 1,p,n,q,h,hn=>by
  have hp:=h.pos;have hz:=h.size;have unf:run (m90 O key) (Â8 (f + 1) p n q)=run (m90 O key) (if O.blt (kk O key p n) (kk O key p (n - 1))=true then(if q > 0 then Â8 f (È3 p (n - (q + 1)) n) (n + 1) 0 else Â8 f p (n + 1) 0)
   else .ask (p.getD (n - 1) 0) (p.getD n 0) λd=>if d=true then .ret (p,n,q) else Â8 f p (n + 1) (q + 1)):=rfl
  rw[unf];cases hb:O.blt (kk O key p n) (kk O key p (n - 1)) with
  |true =>
   simp only[if_true];have go:∀ p',DnR O key p0 p' n q->(∀ k,kk O key p' k=kk O key p k)->n<=(run (m90 O key) (Â8 f p' (n + 1) 0)).2.1/\(run (m90 O key) (Â8 f p' (n + 1) 0)).2.1<=n + (f + 1) /\
     DnR O key p0 (run (m90 O key) (Â8 f p' (n + 1) 0)).1 (run (m90 O key) (Â8 f p' (n + 1) 0)).2.1 (run (m90 O key) (Â8 f p' (n + 1) 0)).2.2:=λp' h' e=>by
    have ih:=c41 f p' (n + 1) 0 ⟨h'.perm,h'.size,by omega,h'.dn.more ∅ (by rw[e,e];exact Î4 hb),λk h1 h2=>by
     have:k=n:=by omega
     subst this;rfl⟩ ∅
    exact⟨by omega,by omega,ih.2.2⟩
   split
   ·exact go _ (h.rev ∅) (rev_eq ∅ h.eq)
   ·exact go _ h λ_=>rfl
  |false =>
   simp only[Ê2,if_false];have unf2:run (m90 O key) (KasT.ask (p.getD (n - 1) 0) (p.getD n 0) λd=>if d=true then .ret (p,n,q) else Â8 f p (n + 1) (q + 1)) =
    run (m90 O key) (if O.blt (kk O key p (n - 1)) (kk O key p n)=true then .ret (p,n,q) else Â8 f p (n + 1) (q + 1)):=rfl
   rw[unf2];cases hc:O.blt (kk O key p (n - 1)) (kk O key p n) with
   |true =>
    simp only[if_true];exact⟨Ê _,by show n<=n + (f + 1);omega,h⟩
   |false =>
    simp only[Ê2,if_false];have e:kk O key p n=kk O key p (n - 1):=O.total _ _ hb hc;have ih:=c41 f p (n + 1) (q + 1) ⟨h.perm,h.size,by omega,h.dn.more ∅ (by rw[e];exact Ç4 _),λk h1 h2=>by
     show _=kk O key p n;by_cases hk:k=n
     ·rw[hk]
     ·rw[e];exact h.eq k ∅ ∅⟩ ∅
    exact⟨by omega,by omega,ih.2.2⟩
structure J42(O:KeyOrd)(key:Nat->O.α)(p0:Array Nat)(nrem:Nat)(r:Nat × Array Nat):Prop where
 perm:r.2.Perm p0
 size:r.2.size=p0.size
 lo:1<=r.1
 hi:r.1<=nrem
 up:Up O key r.2 r.1
theorem i71(hp:p.Perm p0)(hz:p.size=p0.size)(hd:Dn O key p n)(h1:1<=n)(hn:n<=nrem)(hr:nrem<=p0.size):J42 O key p0 nrem (run (m90 O key) (kas_tail3 n nrem p)):=by
 unfold kas_tail3;rw[run_bind];have hu:Up O key (È3 p 0 n) n:=λi j hij hj=>by
  rw[x51 ∅,x51 ∅,if_pos ∅,if_pos ∅]
  exact hd _ _ ∅ ∅
 have a:=x61 (O:=O) (key:=key) (p:=È3 p 0 n) (nrem - n) n h1 hu;exact⟨(N90 _ _ _).trans hp,(O00 _ _ _).trans hz,by show 1<=run _ (Ç3 _ _ _);omega,by show run _ (Ç3 _ _ _)<=_;omega,a.2.2.1⟩
theorem G00(hp:p.Perm p0)(hz:p.size=p0.size)(hd:Dn O key p (n + 1))(hn:n + 1<=nrem)(hr:nrem<=p0.size):J42 O key p0 nrem (run (m90 O key) (Ï4 n nrem p)):=by
 unfold Ï4;rw[run_bind];have d:=c41 (O:=O) (key:=key) (p0:=p0) (nrem - (n + 1)) p (n + 1) 0 ⟨hp,hz,by omega,hd,λk h1 h2=>by
  have:k=n:=by omega
  subst this;rfl⟩ ∅
 obtain⟨d1,d2,d3⟩:=d;have hpos:=d3.pos;split
 ·have d4:=d3.rev ∅
  exact i71 d4.perm d4.size d4.dn ∅ ∅ hr
 ·exact i71 d3.perm d3.size d3.dn ∅ ∅ hr
theorem N31(h1:1<=nrem)(hr:nrem<=p.size):J42 O key p nrem (run (m90 O key) (Ò8 nrem p)):=by
 unfold Ò8;rw[run_bind];have a:=x61 (O:=O) (key:=key) (p:=p) (nrem - 1) 1 (Ê _) (λi j hij hj=>by
  have:i=j:=by omega
  subst this;exact Ç4 _)
 generalize run (m90 O key) (Ç3 p (nrem - 1) 1)=n at a ⊢;obtain⟨a1,a2,a3,a4⟩:=a;split
 ·exact⟨Ì0 _,rfl,a1,by show n<=nrem;omega,a3⟩
 ·rename_i hne;have hlt:n < nrem:=by
   have:n≠nrem:=by simpa using hne
   omega
  have hl:=a4 ∅
  split
  ·rename_i h2;have unf:run (m90 O key) (KasT.ask (p.getD 0 0) (p.getD (n - 1) 0) λc=>if c=true then .ret (n,p) else Ï4 n nrem (È3 p 0 n)) =
    run (m90 O key) (if O.blt (kk O key p 0) (kk O key p (n - 1))=true then .ret (n,p) else Ï4 n nrem (È3 p 0 n)):=rfl
   rw[unf];cases hb:O.blt (kk O key p 0) (kk O key p (n - 1)) with
   |true =>
    simp only[if_true];exact⟨Ì0 _,rfl,a1,by show n<=nrem;omega,a3⟩
   |false =>
    simp only[Ê2,if_false];have e0:kk O key p 0=kk O key p (n - 1):=O.total _ _ hb (a3 0 (n - 1) ∅ ∅)
    have e:∀ k,0<=k->k < n->kk O key p k=kk O key p (n - 1):=λk _ hk=>by
     refine KeyOrd.kle_antisymm (a3 k (n - 1) ∅ ∅) ?_
     rw[← e0];exact a3 0 k ∅ hk
    have er:=rev_eq (O:=O) (key:=key) (i:=0) (j:=n) (p:=p) ∅ e
    refine G00 (N90 _ _ _) (O00 _ _ _) ?_ ∅ hr
    have dn:Dn O key (È3 p 0 n) n:=λi j hij hj=>by
     rw[er,er,e i ∅ ∅,e j ∅ ∅];exact Ç4 _
    refine dn.more a1 ?_;rw[er,er];exact Î4 hl
  ·have h2:n=1:=by omega
   subst h2;refine G00 (Ì0 _) rfl ?_ ∅ hr
   have dn:Dn O key p 1:=λi j hij hj=>by
    have:i=j:=by omega
    subst this;exact Ç4 _
   exact dn.more (Ê _) (Î4 hl)
theorem O10(hu:Up O key p k):∀ (f l r:Nat),l<=r->r<=k->r - l<=f->(∀ i,i < l->O.kle (kk O key p i) (kk O key p k))->(∀ i,r<=i->i < k->O.klt (kk O key p k) (kk O key p i)) ->
  run (m90 O key) (Ä2 p k f l r)<=k/\(∀ i,i < run (m90 O key) (Ä2 p k f l r)->O.kle (kk O key p i) (kk O key p k))/\(∀ i,run (m90 O key) (Ä2 p k f l r)<=i->i < k->O.klt (kk O key p k) (kk O key p i))
 |0,l,r,h1,h2,h3,h4,h5=>by
  have:l=r:=by omega
  subst this;exact⟨h2,h4,h5⟩
 |f + 1,l,r,h1,h2,h3,h4,h5=>by
  have unf:Ä2 p k (f + 1) l r=(if l ≥ r then .ret l else .ask (p.getD k 0) (p.getD ((l + r) / 2) 0) λc=>if c=true then Ä2 p k f l ((l + r) / 2) else Ä2 p k f ((l + r) / 2 + 1) r):=rfl;rw[unf];by_cases hlr:l ≥ r
  ·rw[if_pos hlr];have:l=r:=by omega
   subst this;exact⟨h2,h4,h5⟩
  ·rw[if_neg hlr];have unf2:run (m90 O key) (KasT.ask (p.getD k 0) (p.getD ((l + r) / 2) 0) λc=>if c=true then Ä2 p k f l ((l + r) / 2) else Ä2 p k f ((l + r) / 2 + 1) r) =
    run (m90 O key) (if O.blt (kk O key p k) (kk O key p ((l + r) / 2))=true then Ä2 p k f l ((l + r) / 2) else Ä2 p k f ((l + r) / 2 + 1) r):=rfl
   rw[unf2];cases hb:O.blt (kk O key p k) (kk O key p ((l + r) / 2)) with
   |true =>
    simp only[if_true];exact O10 hu f l ((l + r) / 2) ∅ ∅ ∅ h4 λi hi hk=>KeyOrd.klt_of_klt_of_kle hb (hu _ i hi hk)
   |false =>
    simp only[Ê2,if_false];exact O10 hu f ((l + r) / 2 + 1) r ∅ ∅ ∅ (λi hi=>Ø8 (hu i ((l + r) / 2) ∅ ∅) hb) h5
theorem W31:∀ (f:Nat) (p:Array Nat) (k:Nat),p.Perm p0->p.size=p0.size->Up O key p k->k + f<=p0.size ->
  (run (m90 O key) (kas_bin f p k)).Perm p0/\Up O key (run (m90 O key) (kas_bin f p k)) (k + f)
 |0,p,k,hp,_,hu,_=>⟨hp,hu⟩
 |f + 1,p,k,hp,hz,hu,hk=>by
  have unf:kas_bin (f + 1) p k=(Ä2 p k k 0 k).bind λl=>kas_bin f (bubble p k (k - l)) (k + 1):=rfl;rw[unf,run_bind];have pl:=O10 (O:=O) (key:=key) hu k 0 k ∅ ∅ ∅ (λi hi=>absurd hi (Ð0 _)) (λi h1 h2=>absurd h2 ∅)
  generalize run (m90 O key) (Ä2 p k k 0 k)=l at pl ⊢;obtain⟨l1,l2,l3⟩:=pl;have hb:=u42 (O:=O) (key:=key) (p:=p) (k:=k) (d:=k - l) ∅ ∅
  have hu':Up O key (bubble p k (k - l)) (k + 1):=λi j hij hj=>by
   rw[hb,hb];have el:k - (k - l)=l:=by omega
   rw[el];by_cases ei:i=l
   ·rw[if_pos ei];by_cases ej:j=l
    ·rw[if_pos ej];exact Ç4 _
    ·rw[if_neg ej,if_pos ∅]
     exact Î4 (l3 _ ∅ ∅)
   ·rw[if_neg ei];by_cases hi:l < i/\i<=k
    ·rw[if_pos hi,if_neg ∅,if_pos ∅]
     exact hu _ _ ∅ ∅
    ·rw[if_neg hi];by_cases ej:j=l
     ·rw[if_pos ej];exact l2 _ ∅
     ·rw[if_neg ej];by_cases hj':l < j/\j<=k
      ·rw[if_pos hj'];exact hu _ _ ∅ ∅
      ·rw[if_neg hj'];exact hu _ _ hij ∅
  have ih:=W31 (p0:=p0) f (bubble p k (k - l)) (k + 1) ((bubble_perm _ _ _).trans hp) ((bubble_size _ _ _).trans hz) hu' ∅
  exact⟨ih.1,by have:=ih.2;rwa [show k + 1 + f=k + (f + 1) by omega] at this⟩
theorem d62(h1:1<=n):(run (m90 O key) (Ð4 n)).Perm (Ø n).toArray/\Up O key (run (m90 O key) (Ð4 n)) n:=by
 unfold Ð4;rw[run_bind];have c:=N31 (O:=O) (key:=key) (p:=(Ø n).toArray) h1 (by simp)
 generalize run (m90 O key) (Ò8 n (Ø n).toArray)=r at c ⊢;obtain⟨c1,c2,c3,c4,c5⟩:=c;split
 ·have b:=W31 (O:=O) (key:=key) (n - max r.1 1) r.2 (max r.1 1) c1 c2 (by rw[Nat.max_eq_left c3];exact c5) (by simp;omega)
  exact⟨b.1,by have:=b.2;rwa [show max r.1 1 + (n - max r.1 1)=n by omega] at this⟩
 ·have:r.1=n:=by omega
  rw[this] at c5;exact⟨c1,c5⟩
end
def q00{α:Type}(n:Nat):KasT α->Prop
 |.ret _=>True|.ask i j k=>(i < n/\j < n)/\∀ b,q00 n (k b)
def W00{α:Type}(G:α->Prop):KasT α->Prop
 |.ret a=>G a|.ask _ _ k=>∀ b,W00 G (k b)
theorem q00.bind{α β:Type}{n:Nat}{f:α->KasT β}{G:α->Prop}(hf:∀ a,G a->q00 n (f a)):∀ {t:KasT α},q00 n t->W00 G t->q00 n (t.bind f)
 |.ret a,_,g=>hf a g|.ask _ _ _,h,g=>⟨h.1,λb=>q00.bind hf (h.2 b) (g b)⟩
theorem W00.bind{α β:Type}{f:α->KasT β}{G:α->Prop}{G':β->Prop}(hf:∀ a,G a->W00 G' (f a)):∀ {t:KasT α},W00 G t->W00 G' (t.bind f)
 |.ret a,g=>hf a g|.ask _ _ _,g=>λb=>W00.bind hf (g b)
def Low(n:Nat)(p:Array Nat):Prop:=∀ i,p.getD i 0 < n
theorem x71(h1:1<=n)(hp:p.Perm q)(hq:∀ x∈q.toList,x < n):Low n p:=λi=>by
 by_cases hi:i < p.size
 ·have e:p.getD i 0=p[i]:=by simp[getD,hi]
  rw[e];exact hq _ (hp.toList.mem_iff.mp (by simp))
 ·have e:p.getD i 0=0:=by simp[getD,hi]
  rw[e];exact h1
structure Good(n:Nat)(q p:Array Nat):Prop where
 low:Low n p
 perm:p.Perm q
theorem Good.rev(h1:1<=n)(hq:∀ x∈q.toList,x < n)(g:Good n q p)(i j:Nat):Good n q (È3 p i j) :=
 have e:=(mirror_perm p i j ((j - i) / 2)).trans g.perm
 ⟨x71 h1 e hq,e⟩
theorem Good.bub(h1:1<=n)(hq:∀ x∈q.toList,x < n)(g:Good n q p)(i j:Nat):Good n q (bubble p i j) :=
 have e:=(bubble_perm p i j).trans g.perm
 ⟨x71 h1 e hq,e⟩
section
variable {n:Nat}{q:Array Nat}
theorem O20(g:Low n p):∀ (f k:Nat),q00 n (Ç3 p f k)
 |0,_=>trivial|f + 1,k=>⟨⟨g _,g _⟩,λb=>by cases b with | true=>exact trivial | false=>exact O20 g f (k + 1)⟩
theorem x20:∀ (f k:Nat),W00 (λ_=>True) (Ç3 p f k)
 |0,_=>trivial|f + 1,k=>λb=>by cases b with | true=>exact trivial | false=>exact x20 f (k + 1)
theorem G10(h1:1<=n)(hq:∀ x∈q.toList,x < n):∀ (f:Nat) (p:Array Nat) (k c:Nat),Good n q p->q00 n (Â8 f p k c)/\W00 (λr=>Good n q r.1) (Â8 f p k c)
 |0,p,k,c,g=>⟨trivial,g⟩
 |f + 1,p,k,c,g=>by
  have a:=λp' k' c' g'=>(G10 h1 hq f p' k' c' g').1;have r:=λp' k' c' g'=>(G10 h1 hq f p' k' c' g').2;refine⟨⟨⟨g.low _,g.low _⟩,λb=>?_⟩,λb=>?_⟩
  ·cases b with
   |true =>
    show q00 n (if c > 0 then Â8 f (È3 p (k - (c + 1)) k) (k + 1) 0 else Â8 f p (k + 1) 0);split
    ·exact a _ _ _ (g.rev h1 hq _ _)
    ·exact a _ _ _ g
   |false=>exact⟨⟨g.low _,g.low _⟩,λd=>by cases d with | true=>exact trivial | false=>exact a _ _ _ g⟩
  ·cases b with
   |true =>
    show W00 _ (if c > 0 then Â8 f (È3 p (k - (c + 1)) k) (k + 1) 0 else Â8 f p (k + 1) 0);split
    ·exact r _ _ _ (g.rev h1 hq _ _)
    ·exact r _ _ _ g
   |false=>exact λd=>by cases d with | true=>exact g | false=>exact r _ _ _ g
theorem s70(h1:1<=n)(hq:∀ x∈q.toList,x < n)(g:Good n q p)(k m:Nat):q00 n (kas_tail3 k m p)/\W00 (λr=>Good n q r.2) (kas_tail3 k m p) :=
 have g':=g.rev h1 hq 0 k
 And.intro (q00.bind (f:=λm'=>Ñ3 (m',È3 p 0 k)) (λ_ _=>Ê3) (O20 g'.low (m - k) k) (x20 (m - k) k)) (W00.bind (f:=λm'=>Ñ3 (m',È3 p 0 k)) (G':=λr=>Good n q r.2) (λ_ _=>g') (x20 (m - k) k))
theorem j90(h1:1<=n)(hq:∀ x∈q.toList,x < n)(g:Good n q p)(k m:Nat):q00 n (Ï4 k m p)/\W00 (λr=>Good n q r.2) (Ï4 k m p):=by
 have d:=G10 h1 hq (m - (k + 1)) p (k + 1) 0 g;refine⟨q00.bind (λr gr=>?_) d.1 d.2,W00.bind (λr gr=>?_) d.2⟩
 ·split
  ·exact(s70 h1 hq (gr.rev h1 hq _ _) _ _).1
  ·exact(s70 h1 hq gr _ _).1
 ·split
  ·exact(s70 h1 hq (gr.rev h1 hq _ _) _ _).2
  ·exact(s70 h1 hq gr _ _).2
theorem q81(h1:1<=n)(hq:∀ x∈q.toList,x < n)(g:Good n q p)(m:Nat):q00 n (Ò8 m p)/\W00 (λr=>Good n q r.2) (Ò8 m p):=by
 refine⟨q00.bind (λk _=>?_) (O20 g.low _ _) (x20 _ _),W00.bind (λk _=>?_) (x20 _ _)⟩
 ·split
  ·exact trivial
  ·split
   ·exact⟨⟨g.low _,g.low _⟩,λb=>by cases b with | true=>exact trivial | false=>exact(j90 h1 hq (g.rev h1 hq _ _) _ _).1⟩
   ·exact(j90 h1 hq g _ _).1
 ·split
  ·exact g
  ·split
   ·exact λb=>by cases b with | true=>exact g | false=>exact(j90 h1 hq (g.rev h1 hq _ _) _ _).2
   ·exact(j90 h1 hq g _ _).2
theorem k10(g:Low n p)(k:Nat):∀ (f l r:Nat),q00 n (Ä2 p k f l r)/\W00 (λ_=>True) (Ä2 p k f l r)
 |0,_,_=>⟨trivial,trivial⟩
 |f + 1,l,r=>by
  have e:Ä2 p k (f + 1) l r=(if l ≥ r then .ret l else .ask (p.getD k 0) (p.getD ((l + r) / 2) 0) λc=>if c=true then Ä2 p k f l ((l + r) / 2) else Ä2 p k f ((l + r) / 2 + 1) r):=rfl;rw[e];split
  ·exact⟨trivial,trivial⟩
  ·refine⟨⟨⟨g _,g _⟩,λb=>?_⟩,λb=>?_⟩
   ·cases b with
    |true=>exact(k10 g k f _ _).1|false=>exact(k10 g k f _ _).1
   ·cases b with
    |true=>exact(k10 g k f _ _).2|false=>exact(k10 g k f _ _).2
theorem i81(h1:1<=n)(hq:∀ x∈q.toList,x < n):∀ (f:Nat) (p:Array Nat) (k:Nat),Good n q p->q00 n (kas_bin f p k)
 |0,_,_,_=>trivial|f + 1,p,k,g=>q00.bind (λl _=>i81 h1 hq f _ _ (g.bub h1 hq _ _)) (k10 g.low k k 0 k).1 (k10 g.low k k 0 k).2
theorem x81(h1:1<=n):q00 n (Ð4 n):=by
 have hq:∀ x∈((Ø n).toArray).toList,x < n:=λx hx=>by simpa using hx
 have g:Good n (Ø n).toArray (Ø n).toArray:=⟨x71 h1 (Ì0 _) hq,Ì0 _⟩;have c:=q81 h1 hq g n;refine q00.bind (λr gr=>?_) c.1 c.2;split
 ·exact i81 h1 hq _ _ _ gr
 ·exact trivial
end
theorem W10{α:Type}{n:Nat}{cmp:Nat->Nat->Bool}{ask:Nat->Nat->(Bool->Æ->Prop)->Æ->Prop}{s:Æ}(h:∀ i j (C:Bool->Æ->Prop),i < n->j < n->C (cmp i j) s->ask i j C s){Q:α->Æ->Prop} :
  ∀ (t:KasT α),q00 n t->Q (run cmp t) s->t.kasWp ask Q s
 |.ret _,_,q=>q|.ask i j k,a,q=>h i j _ a.1.1 a.1.2 (W10 h (k (cmp i j)) (a.2 _) q)
def f10:List Int->List Int->Bool
 |[],[]=>false|[],_::_=>true|_::_,[]=>false|x::r,y::q=>if x=y then f10 r q else decide (x < y)
theorem c20:∀ a,f10 a a=false
 |[]=>rfl|x::r=>by show(if x=x then f10 r r else _)=_;rw[if_pos rfl];exact c20 r
theorem n10:∀ a b c,f10 a b=true->f10 b c=true->f10 a c=true
 |[],[],_,h,_=>by cases h
 |[],_::_,[],_,h=>by cases h
 |[],_::_,_::_,_,_=>rfl|_::_,[],_,h,_=>by cases h
 |_::_,_::_,[],_,h=>by cases h
 |x::a,y::b,z::c,h1,h2=>by
  have h1:(if x=y then f10 a b else decide (x < y))=true:=h1;have h2:(if y=z then f10 b c else decide (y < z))=true:=h2;show(if x=z then f10 a c else decide (x < z))=true;by_cases e1:x=y
  ·rw[if_pos e1] at h1;by_cases e2:y=z
   ·rw[if_pos e2] at h2;rw[if_pos (e1.trans e2)];exact n10 a b c h1 h2
   ·rw[if_neg e2] at h2;rw[if_neg ∅]
    rw[e1];exact h2
  ·rw[if_neg e1] at h1;have l1:x < y:=by simpa using h1
   by_cases e2:y=z
   ·rw[if_neg ∅];exact decide_eq_true ∅
   ·rw[if_neg e2] at h2;have l2:y < z:=by simpa using h2
    rw[if_neg ∅];exact decide_eq_true ∅
theorem n20:∀ a b,f10 a b=false->f10 b a=false->a=b
 |[],[],_,_=>rfl|[],_::_,h,_=>by cases h
 |_::_,[],_,h=>by cases h
 |x::a,y::b,h1,h2=>by
  have h1:(if x=y then f10 a b else decide (x < y))=false:=h1;have h2:(if y=x then f10 b a else decide (y < x))=false:=h2;by_cases e:x=y
  ·subst e;rw[if_pos rfl] at h1 h2;rw[n20 a b h1 h2]
  ·rw[if_neg e] at h1;rw[if_neg (Â4 e)] at h2;have l1:¬ x < y:=by simpa using h1
   have l2:¬ y < x:=by simpa using h2
   omega
theorem i91(a b c:List Int)(h:f10 a c=true):f10 a b=true∨f10 b c=true:=by
 cases hab:f10 a b with
 |true=>exact .inl rfl
 |false =>
  right;cases hba:f10 b a with
  |true=>exact n10 b a c hba h|false=>rw[← n20 a b hab hba];exact h
def d72:KeyOrd:=⟨List Int,f10,c20,n10,i91,n20⟩
section
variable {P:ç}{w:ø}{A:ý}{E:Ã->Æ->Prop}{s:Æ}
def sortedBy(ks:List (List Int))(p:List Nat):Prop:=p.Perm (Ø ks.length)/\(p.map λi=>ks.getD i []).Pairwise λx y=>f10 y x=false
theorem range_getD(d:α):∀ (l:List α),(Ø l.length).map (λi=>l.getD i d)=l:=λl=>by
 refine List.ext_getElem (by simp) λi h1 h2=>?_
 simp at h1;simp[h1]
def G02(P:ç)(w:ø)(A:ý)(s:Æ)(vs:List Ã)(Pr:List Nat->Prop)(kd:É8):Prop:=∃ p:List Nat,Pr p/\∀ (E:Ã->Æ->Prop) (Q:Unit × Á7->Æ->Prop),(∀ st',failedOf st'=none->arrOf st'=(p.toArray).map (ì (vs.toArray.zip vs.toArray))->Q ((),st') s)->Ô (Û P w) A (sortRuns'.run (È5 kd (vs.toArray.zip vs.toArray) #[] 7 none)) Q E s
structure d82(P:Program)(w:World)(A:Around)(s:Shared)(vs:List Value)(Pr:List Nat->Prop)(kd:SortKind):Prop where
 len:vs.length<=1000
 few:vs.length < 2->Pr (range vs.length)
 all:∀ p,Pr p->p.length=vs.length
 kind:2<=vs.length->∀ (E:Value->Shared->Prop) (Q:SortKind->Shared->Prop),Q kd s->wpAny (model P w) A (keyKind' vs.toArray) Q E s
 run:2<=vs.length->G02 P w A s vs Pr kd
theorem u52(hl:n=ks.length)(h2:n < 2):sortedBy ks (Ø n):=by
 subst hl;refine⟨.refl _,?_⟩;rw[range_getD]
 match ks,h2 with
 |[],_=>exact .nil|[_],_=>simp|_::_::_,q=>simp at q;omega
theorem d92{vs:List Ã}{ks:List (List Int)}{kd:É8}(hlen:vs.length=ks.length)(h64:vs.length < 64)(ask:∀ i j,i < vs.length->j < vs.length->∀ (E:Ã->Æ->Prop) (C:Bool->Æ->Prop),C (f10 (ks.getD i []) (ks.getD j [])) s->Ô (Û P w) A (keyLt' kd (vs.getD i è) (vs.getD j è)) C E s)(h2':2<=vs.length):G02 P w A s vs (sortedBy ks) kd:=by
 have so:=d62 (O:=d72) (key:=λi=>ks.getD i []) (n:=vs.length) ∅
 refine⟨(run (m90 d72 λi=>ks.getD i []) (Ð4 vs.length)).toList,?_,λE Q q=>?_⟩
 ·generalize run (m90 d72 λi=>ks.getD i []) (Ð4 vs.length)=p at so;refine⟨?_,?_⟩
  ·have:=so.1.toList;rw[hlen] at this;simpa using this
  ·rw[List.pairwise_iff_getElem];intro i j hi hj hij;have hsz:p.size=vs.length:=by have:=so.1.size_eq;simpa using this
   have hi':i < p.size:=by simpa using hi
   have hj':j < p.size:=by simpa using hj
   have u:=so.2 i j (Í5 hij) ∅
   have g:∀ k,k < p.size->kk d72 (λi=>ks.getD i []) p k=ks.getD (p.toList.getD k 0) []:=λk hk=>by show ks.getD (p.getD k 0) []=_;rw[Å9,Ó (l:=p.toList),ÿ]
   have u':f10 (ks.getD (p.toList.getD j 0) []) (ks.getD (p.toList.getD i 0) [])=false:=by
    have:=u;unfold KeyOrd.kle at this;rw[g i hi',g j hj'] at this;exact this
   simpa [hi',hj'] using u'
 ·refine Å2 (kat_run (s:=s) (Q:=λst' s'=>s'=s/\failedOf st'=none/\arrOf st'=(run (m90 d72 λi=>ks.getD i []) (Ð4 vs.length)).map (ì (vs.toArray.zip vs.toArray)))
   (G:=λp s'=>s'=s/\p=run (m90 d72 λi=>ks.getD i []) (Ð4 vs.length)) rfl h2' h64 (λp st' s' a1 a2 a3 a4=>⟨a4.1,a3,by rw[a2,a4.2]⟩)
   (W10 (n:=vs.length) (cmp:=m90 d72 λi=>ks.getD i []) (λi j C hi hj hC=>ask i j hi hj _ C hC) (Ð4 vs.length) (x81 ∅) ⟨rfl,rfl⟩)) ?_ λ_ _ e=>e
  rintro ⟨⟨⟩,st'⟩ s' ⟨hs',hf,har⟩;subst hs';exact q st' hf har
def x91(h h':ò):Prop:=∀ b o,h.get? b=some o->o.cls=.type "tuple"->h'.get? b=some o
theorem N41{a:È}{vs:List Ã}{Pr:List Nat->Prop}{kd:É8}{n:Nat}{R:PySem.Fin->Æ->Prop}(ho:s.heap.get? a=some (Ã7 "list" vs.toArray n))(hk:∀ h',x91 s.heap h'->d82 P w A { s with heap:=h' } vs Pr kd)
  (h:∀ (p:List Nat) (h':ò) (c:Nat),Pr p->(∀ b o,b≠a->s.heap.get? b=some o->h'.get? b=some o)->h'.get? a=some (Ã7 "list" (p.map λi=>vs.getD i è).toArray c)->R (.done (.ret .none)) { s with heap:=h' }) :
  Ô (Û P w) A (Å6.«list.sort» ⟨[.ref a],[]⟩) R E s:=by
 have ha:a < s.heap.objs.size:=å ho;have h64:=(hk s.heap λ_ _ e _=>e).len;have s1:=Ë6 s.heap a (Á0 λ_=>(#[]:Array Ã));obtain⟨e1,ho1⟩:∃ e1,(s.heap.update a (Á0 λ_=>(#[]:Array Ã))).get? a=some (Ã7 "list" #[] e1):=⟨_,Ý6 ho λ_=>#[]⟩;have kp:∀ b o,b≠a->s.heap.get? b=some o->(((s.heap.update a (Á0 λ_=>(#[]:Array Ã))).push (Ã7 "tuple" vs.toArray 0)).push (Ã7 "list" #[] 0)).get? b=some o:=λb o hb e=>Ä _ (Ä _ ((s1.2 b hb).trans e));have ho6:(((s.heap.update a (Á0 λ_=>(#[]:Array Ã))).push (Ã7 "tuple" vs.toArray 0)).push (Ã7 "list" #[] 0)).get? a=some (Ã7 "list" #[] e1):=Ä _ (Ä _ ho1);have hk6:=hk (((s.heap.update a (Á0 λ_=>(#[]:Array Ã))).push (Ã7 "tuple" vs.toArray 0)).push (Ã7 "list" #[] 0)) (λb o e hc=>kp b o (λq=>by subst q;rw[ho] at e;cases e;have hc':Ã5 "list"=Ã5 "tuple":=hc;injection hc' with hc';exact absurd hc' (-0)) e)
 rw[list_sort_plain];refine Á (Ï3 ho rfl (Á (Ù5 ho rfl ?_ (by rw[Ö,Â7];omega) (Æ6 _))))
 refine Á (seqEpoch_at ho1 rfl (Á (wpAny_newTuple ?_ (by show vs.length<=_;rw[Â7];omega))));refine Á (wpAny_newList (Ê8 ?_) (Æ6 _))
 show Ô (Û P w) A _ R E { s with heap:=((s.heap.update a (Á0 λ_=>(#[]:Array Ã))).push (Ã7 "tuple" vs.toArray 0)).push (Ã7 "list" #[] 0) };generalize hH:((s.heap.update a (Á0 λ_=>(#[]:Array Ã))).push (Ã7 "tuple" vs.toArray 0)).push (Ã7 "list" #[] 0)=h6 at kp ho6 hk6 ⊢;have fin:∀ (p:List Nat) (out:Array Ã),out=(p.map λi=>vs.getD i è).toArray->Pr p->Ô (Û P w) A (do
   let touched:=(← seqEpoch a) != e1
   Å6.List.listUpdate (.ref a) λ_=>out
   if touched then rule "list.sort.modified";raiseError "ValueError" "list modified during sort"
   ret .none) R E { s with heap:=h6 }:=λp out eo hp=>by
  subst eo;have hsz:(p.map λi=>vs.getD i è).toArray.size=vs.length:=by rw[Ö,Å,(hk s.heap λ_ _ e _=>e).all p hp]
  have s2:=Ë6 h6 a (Á0 λ_=>(p.map λi=>vs.getD i è).toArray);refine Á (seqEpoch_at ho6 rfl (Á (Ù5 ho6 rfl ?_ (Æ6 _) (Ù (Ò1 hsz) (by rw[Â7];omega)))))
  simp only[bne_self_eq_false,Ê2,if_false];exact Î (h p _ _ hp (λb o hb e=>(s2.2 b hb).trans (kp b o hb e)) (Ý6 ho6 λ_=>(p.map λi=>vs.getD i è).toArray))
 dsimp only;by_cases h2:vs.toArray.size < 2
 ·rw[if_pos h2,if_pos h2];refine Á (Î ?_);rw[StateT.run_pure];refine Á (Î ?_);dsimp only;refine fin (Ø vs.length) _ ?_ ((hk s.heap λ_ _ e _=>e).few (by simpa using h2))
  rw[range_getD];apply Array.toList_inj.mp;rw[Array.toList_map];show List.map _ (vs.toArray.zip vs.toArray).toList=vs;rw[ksk_zip];exact List.map_snd_zip (Ê _)
 ·rw[if_neg h2,if_neg h2];have h2':2<=vs.length:=by simpa using h2
  refine Á (hk6.kind h2' _ _ ?_);obtain⟨p,hp,hr⟩:=hk6.run h2';refine Á (hr _ _ λst' hf har=>?_);dsimp only;rw[hf];exact fin p _ (kat_snds rfl har) hp
end
theorem y01:∀ n < 1001,64<=n->minRun' n n 0<=n:=by decide +kernel
section
variable {P:ç}{w:ø}{A:ý}{E:Ã->Æ->Prop}{s:Æ}{κ:É8}{it:Array Keyed}
theorem W41{n:Nat}(hc:∀ i,1<=i->i < n->∀ C:Bool->Æ->Prop,C false s->kas_cmp P w A κ it i (i - 1) C s){G:Nat->Æ->Prop}(g:G n s):∀ f k,1<=k->k + f=n->(Ç3 (Ä7 (Ø n)) f k).kasWp (kas_cmp P w A κ it) G s
 |0,k,_,e=>by
  have e:k=n:=e;subst e;exact g
 |f + 1,k,h1,e=>by
  have e1:(Ä7 (Ø n)).getD k 0=k:=by
   rw[Å9];simp[show k < n by omega]
  have e2:(Ä7 (Ø n)).getD (k - 1) 0=k - 1:=by
   rw[Å9];simp[show k - 1 < n by omega]
  show kas_cmp P w A κ it ((Ä7 (Ø n)).getD k 0) ((Ä7 (Ø n)).getD (k - 1) 0) _ s;rw[e1,e2];exact hc k h1 ∅ _ (W41 hc g f (k + 1) ∅ ∅)
theorem e02{r:Nat}(h64:64<=r + 2)(hm:r + 2<=1000)(hc:∀ i,1<=i->i < r + 2->∀ C:Bool->Æ->Prop,C false s->kas_cmp P w A κ it i (i - 1) C s){Q:Unit->Á7->Æ->Prop}(q:∀ st',arrOf st'=(Ä7 (Ø (r + 2))).map (ì it)->failedOf st'=none->Q () st' s) :
  kasC (Û P w) A E sortRuns' Q (kas_st κ it (Ä7 (Ø (r + 2)))) s:=by
 have sz0:(Ä7 (Ø (r + 2))).size=r + 2:=by simp
 have sz:(arrOf (kas_st κ it (Ä7 (Ø (r + 2))))).size=r + 2:=Array.size_map.trans sz0;have cw:(Ò8 (r + 2) (Ä7 (Ø (r + 2)))).kasWp (kas_cmp P w A κ it) (λx s'=>s'=s/\x=(r + 2,Ä7 (Ø (r + 2)))) s:=by
  unfold Ò8;rw[KasT.kasWp_bind];refine W41 hc ?_ (r + 2 - 1) 1 (Ê 1) ∅
  rw[if_pos (beq_self_eq_true (r + 2))];exact⟨rfl,rfl⟩
 have no:¬ r + 2 < minRun' (r + 2) (r + 2) 0:=by have:=y01 (r + 2) ∅ h64;omega
 rw[sortRuns'_eq];refine Ë7 (kasC_get ?_);dsimp only;simp only[sz];refine Ë7 (kasC_range ?_);show kasC _ _ _ (forIn (0::1::Ã8 2 r) _ _) _ _ _;refine kasC_cons ?_;dsimp only;rw[if_neg ∅]
 simp only[Nat.sub_zero,Nat.zero_add];refine Ë7 (kas_count_ ∅ (Ò1 sz0.symm) (λm p' s' _ _ _ g=>?_) cw)
 obtain⟨rfl,g⟩:=g;cases g;dsimp only;rw[if_neg no];refine Ë7 (kasC_get ?_);have bk:(Ò6 (kas_st κ it (Ä7 (Ø (r + 2))))).back?=none:=rfl;rw[bk];dsimp only;refine Ë7 (Ý2 (Ø3 ?_));refine kasC_cons ?_;dsimp only;rw[if_pos (Ê _)];refine Ø3 ?_;dsimp only;refine Ë7 (kasC_range ?_);show kasC _ _ _ (forIn (0::1::Ã8 2 r) _ _) _ _ _;refine kasC_cons (Ë7 (kasC_get ?_));refine Eq.mpr (congrArg (λm=>kasC (Û P w) A E m _ _ _) (if_pos (Ê 1))) ?_;exact Ø3 (Ø3 (q _ rfl rfl))
theorem u62{vs:List Ã}(h64:64<=vs.length)(hm:vs.length<=1000)(ask:∀ i,1<=i->i < vs.length->∀ (E:Ã->Æ->Prop) (C:Bool->Æ->Prop),C false s->Ô (Û P w) A (keyLt' κ (vs.getD i è) (vs.getD (i - 1) è)) C E s):G02 P w A s vs (λp=>p=Ø vs.length) κ:=by
 refine⟨_,rfl,λE Q q=>?_⟩;obtain⟨r,hr⟩:∃ r,vs.length=r + 2:=⟨vs.length - 2,by omega⟩
 have est:È5 κ (vs.toArray.zip vs.toArray) #[] 7 none=kas_st κ (vs.toArray.zip vs.toArray) (Ä7 (Ø (r + 2))):=by
  have e:=kas_range (vs.toArray.zip vs.toArray);rw[show(vs.toArray.zip vs.toArray).size=r + 2 by simp[hr]] at e
  show _=È5 κ ((Ä7 (Ø (r + 2))).map (ì (vs.toArray.zip vs.toArray))) #[] 7 none;rw[e]
 rw[est];rw[hr] at q h64 hm ask;have u:=e02 (P:=P) (w:=w) (A:=A) (E:=E) (s:=s) (κ:=κ) (it:=vs.toArray.zip vs.toArray) (Q:=λ_ st s'=>s'=s/\failedOf st=none/\arrOf st=(Ä7 (Ø (r + 2))).map (ì (vs.toArray.zip vs.toArray))) h64 hm (λi h1 h2 C hC=>by
  show Ô (Û P w) A (keyLt' κ (ì (pairsOf vs) i).1 (ì (pairsOf vs) (i - 1)).1) C _ s;rw[Ô6 vs i,Ô6 vs (i - 1)];exact ask i h1 h2 _ C hC) λst' a b=>⟨rfl,b,a⟩
 refine Å2 u (λx s' h=>?_) λ_ _ e=>e;obtain⟨rfl,h2,h3⟩:=h;exact q x.2 h2 h3
end
end MySort
namespace TS
open PySem PySem.W PyProof.Rows
structure Tw where
 a:Array Nat
 pending:Array (Nat × Nat × Nat)
 minGallop:Nat
abbrev TM:=StateT Tw Option
section
variable (n:Nat) (cmp:Nat->Nat->Bool)
def ltT(x y:Nat):TM Bool:=if x < n/\y < n then pure (cmp x y) else λ_=>none
def y11(arr:Array Nat)(i:Nat):TM Nat:=match arr.toList[i]? with
 |some p=>pure p|none=>λ_=>none
def e12(i j:Nat):TM Bool:=do
 let a:=(← get).a
 ltT n cmp (← y11 a i) (← y11 a j)
def S02(i j:Nat):TM Unit:=modify λs=>{ s with a:=mirror s.a i j ((j - i) / 2) }
def mvL(a:Array Nat)(src dst:Nat):Array Nat:=⟨a.toList.take dst++((a.toList.drop src).take 1++((a.toList.take src).drop dst++a.toList.drop (src + 1)))⟩
theorem u72(h:src < a.size)(h2:dst<=src):mvL a src dst=bubble a src (src - dst):=by
 apply Array.ext_getElem?;intro k;rw[getElem?_bubble h (src - dst) ∅ k,show src - (src - dst)=dst by omega]
 have hl:src < a.toList.length:=h;rw[← ÿ,← ÿ,← ÿ,← ÿ];show(a.toList.take dst++((a.toList.drop src).take 1++((a.toList.take src).drop dst++a.toList.drop (src + 1))))[k]?=_;generalize a.toList=l at hl;rw[Ó4,Ó4,Ó4,Å3,Å3,Ë0,Ë0,Å3,show min dst l.length=dst by omega,show min 1 (l.length - src)=1 by omega,show min src l.length - dst=src - dst by omega,Ö0,Ö0,Ö1,Ö1,Ö1,Ö0]
 by_cases c1:k < dst
 ·rw[if_pos c1,if_pos c1,if_neg ∅,if_neg ∅]
 ·rw[if_neg c1];by_cases c2:k=dst
  ·rw[if_pos ∅,if_pos ∅,if_pos c2,show src + (k - dst)=src by omega]
  ·rw[if_neg ∅,if_neg c2]
   by_cases c3:k<=src
   ·rw[if_pos ∅,if_pos ∅,if_pos ∅,show dst + (k - dst - 1)=k - 1 by omega]
   ·rw[if_neg ∅,if_neg ∅,show src + 1 + (k - dst - 1 - (src - dst))=k by omega]
def e22(src dst:Nat):TM Unit:=λt=>if src < t.a.size/\dst<=src then some ((),{ t with a:=mvL t.a src dst }) else none
end
section
variable {prog:ç}{w:ø}{A:ý}{E:Ã->Æ->Prop}{s:Æ}{κ:É8}{it:Array Keyed}{n:Nat}{cmp:Nat->Nat->Bool}
def co(κ:É8)(it:Array Keyed)(t:Tw):SortSt:=È5 κ (t.a.map (ì it)) t.pending t.minGallop none
def Sim(prog:ç)(w:ø)(A:ý)(E:Ã->Æ->Prop)(s:Æ)(κ:É8)(it:Array Keyed){α β:Type}(rel:β->α)(m:StateT Á7 Sem α)(f:TM β):Prop :=
 ∀ (t:Tw) (b:β) (t':Tw),f t=some (b,t')->∀ Q:α->Á7->Æ->Prop,Q (rel b) (co κ it t') s->kasC (Û prog w) A E m Q (co κ it t) s
local macro_rules | `(tactic| trivial)=>`(tactic| skip)
section
variable {α β α' β':Type}{r:β->α}{r':β'->α'}
theorem E30(b:β)(e:a=r b):Sim prog w A E s κ it r (pure a) (pure b):=λt b' t' h Q q=>by
 cases h;subst e;exact Ø3 q
theorem o50(h:Sim prog w A E s κ it r m f)(hk:∀ b,Sim prog w A E s κ it r' (k (r b)) (g b)):Sim prog w A E s κ it r' (m >>= k) (f >>= g):=λt b t' e Q q=>by
 have e:(f t).bind (λx=>g x.1 x.2)=some (b,t'):=e;obtain⟨⟨b1,t1⟩,e1,e2⟩:=Ï.mp e;exact Ë7 (h t b1 t1 e1 _ (hk b1 t1 b t' e2 Q q))
theorem c51:Sim prog w A E s κ it (co κ it) (get:StateT Á7 Sem Á7) (get:TM Tw):=λt b t' e Q q=>by
 cases e;exact kasC_get q
theorem s80(h:∀ t,F (co κ it t)=co κ it (G t)):Sim prog w A E s κ it (λu:Unit=>u) (modify F:StateT Á7 Sem Unit) (modify G:TM Unit):=λt b t' e Q q=>by
 cases e;refine Ý2 ?_;rw[h t];exact q
theorem N51:Sim prog w A E s κ it (λu:Unit=>u) (liftM (rule x):StateT Á7 Sem Unit) (pure ():TM Unit):=λt b t' e Q q=>by
 cases e;exact kasC_lift (Ï8 q)
theorem e32[Decidable c](h1:c->Sim prog w A E s κ it r m f)(h2:¬ c->Sim prog w A E s κ it r m' f'):Sim prog w A E s κ it r (if c then m else m') (if c then f else f'):=by
 split
 ·exact h1 (by assumption)
 ·exact h2 (by assumption)
def D60(r:β->α):ForInStep β->ForInStep α
 |.done b=>.done (r b)|.yield b=>.yield (r b)
theorem j01(h:∀ x b,Sim prog w A E s κ it (D60 r) (body x (r b)) (body' x b)):∀ (l:List Nat) (b:β),Sim prog w A E s κ it r (forIn l (r b) body) (forIn l b body')
 |[],b=>by
  rw[Õ5,Õ5];exact E30 b rfl
 |x::l,b=>by
  rw[Ì7,Ì7];refine o50 (h x b) λst=>?_;cases st with
  |done b'=>exact E30 b' rfl|yield b'=>exact j01 h l b'
end
def Ora(prog:ç)(w:ø)(A:ý)(s:Æ)(κ:É8)(it:Array Keyed)(n:Nat)(cmp:Nat->Nat->Bool):Prop:=∀ i j (C:Bool->Æ->Prop),i < n->j < n->C (cmp i j) s->kas_cmp prog w A κ it i j C s
theorem W51(O:Ora prog w A s κ it n cmp)(x y:Nat):Sim prog w A E s κ it (λo:Bool=>some o) (lt' (ì it x) (ì it y)) (ltT n cmp x y):=λt b t' e Q q=>by
 unfold ltT at e;split at e
 ·rename_i h;cases e;rw[lt'_eq];refine Ë7 (kasC_get ?_);exact Ë7 (kasC_lift (wpAny_attempt (Å2 (O x y (λc s'=>s'=s/\c=cmp x y) h.1 h.2 ⟨rfl,rfl⟩) (λc s' hc=>by obtain⟨rfl,rfl⟩:=hc;exact Ø3 q) λ_ _ hF=>hF.elim)))
 ·cases e
theorem O30(p:Array Nat)(i:Nat):Sim prog w A E s κ it (ì it) (elem' (p.map (ì it)) i) (y11 p i):=by
 rw[elem'_eq];unfold y11;rw[Array.getElem?_map,ÿ];cases p[i]? with
 |none=>exact λt b t' e=>by cases e
 |some x=>exact E30 x rfl
theorem N61(O:Ora prog w A s κ it n cmp)(i j:Nat):Sim prog w A E s κ it (λo:Bool=>some o) (ltAt' i j) (e12 n cmp i j):=by
 rw[ltAt'_eq];unfold e12;refine o50 c51 λt=>?_;exact o50 (O30 t.a i) λx=>o50 (O30 t.a j) λy=>W51 O x y
theorem e42(i j:Nat):Sim prog w A E s κ it (λu:Unit=>u) (reverseSlice' i j) (S02 i j):=by
 rw[reverseSlice'_eq];refine s80 λt=>?_;show È5 κ (mirror (t.a.map (ì it)) i j ((j - i) / 2)) t.pending t.minGallop none=È5 κ ((mirror t.a i j ((j - i) / 2)).map (ì it)) t.pending t.minGallop none;rw[show mirror (t.a.map (ì it)) i j ((j - i) / 2)=(mirror t.a i j ((j - i) / 2)).map (ì it) from kas_swaps_map (ì it) (λk=>i + k) (λk=>j - 1 - k) _ t.a]
theorem N71(k l:Nat):Sim prog w A E s κ it (λu:Unit=>u) (moveDown' k l) (e22 k l):=λt b t' e Q q=>by
 rw[moveDown'_eq];unfold e22 at e;split at e
 ·rename_i h;cases e;refine Ý2 ?_;have e:bubble (t.a.map (ì it)) k (k - l)=(mvL t.a k l).map (ì it):=by
   rw[u72 h.1 h.2];exact kas_swaps_map (ì it) (λi=>k - i) (λi=>k - i - 1) _ t.a
  show Q () (È5 κ (bubble (t.a.map (ì it)) k (k - l)) t.pending t.minGallop none) s;rw[e];exact q
 ·cases e
def x30{β:Type}(f:Nat->β->TM (ForInStep β)):Nat->Nat->β->TM β
 |0,_,b=>pure b
 |n + 1,i,b=>f i b >>= λx=>match x with
  |.done b=>pure b|.yield b=>x30 f n (i + 1) b
theorem j11(f:Nat->β->TM (ForInStep β)):∀ (n i:Nat) (b:β),x30 f n i b=forIn (Ã8 i n 1) b f
 |0,_,_=>by rw[List.range'_zero,Õ5];rfl
 |n + 1,i,b=>by
  rw[Ñ0,Ì7];show(f i b >>= λx=>_)=_
  congr 1
  funext x
  cases x with
  |done b=>rfl|yield b=>exact j11 f n (i + 1) b
theorem O40{α β:Type}{r:β->α}{a b:Nat}{c:β}{body:Nat->α->StateT Á7 Sem (ForInStep α)}{body':Nat->β->TM (ForInStep β)}(h:∀ x b,Sim prog w A E s κ it (D60 r) (body x (r b)) (body' x b)):Sim prog w A E s κ it r (forIn [a:b] (r c) body) (x30 body' (b - a) a c):=by
 rw[Std.Legacy.Range.forIn_eq_forIn_range',j11];have e:[a:b].size=b - a:=by simp[Std.Legacy.Range.size]
 show Sim prog w A E s κ it r (forIn (Ã8 a [a:b].size 1) (r c) body) _;rw[e];exact j01 h _ c
def q10(prog:ç)(w:ø)(A:ý)(E:Ã->Æ->Prop)(s:Æ)(κ:É8)(it:Array Keyed){α β:Type}(r:β->α)(m:StateT Á7 Sem α):Type:={f:TM β // Sim prog w A E s κ it r m f}
section
variable {α β α' β':Type}{r:β->α}{r':β'->α'}
def b70{a:α}(b:β)(e:a=r b):q10 prog w A E s κ it r (pure a):=⟨pure b,E30 b e⟩
def b10{m:StateT Á7 Sem α}{k:α->StateT Á7 Sem α'}(h:q10 prog w A E s κ it r m)(hk:∀ b,q10 prog w A E s κ it r' (k (r b))):q10 prog w A E s κ it r' (m >>= k):=⟨h.1 >>= λb=>(hk b).1,o50 h.2 λb=>(hk b).2⟩
def o60{c:Prop}[Decidable c]{m m':StateT Á7 Sem α}(h1:q10 prog w A E s κ it r m)(h2:q10 prog w A E s κ it r m'):q10 prog w A E s κ it r (if c then m else m'):=⟨if c then h1.1 else h2.1,e32 (λ_=>h1.2) λ_=>h2.2⟩
def t90{m:StateT Á7 Sem α}:q10 prog w A E s κ it r m:=⟨λ_=>none,λ_ _ _ e=>by cases e⟩
def N81{m m':StateT Á7 Sem α}(e:m=m')(h:q10 prog w A E s κ it r m'):q10 prog w A E s κ it r m:=⟨h.1,by rw[e];exact h.2⟩
def u00{a b:Nat}(c:β){body:Nat->α->StateT Á7 Sem (ForInStep α)}(h:∀ x b,q10 prog w A E s κ it (D60 r) (body x (r b))):q10 prog w A E s κ it r (forIn [a:b] (r c) body):=⟨x30 (λx b=>(h x b).1) (b - a) a c,O40 λx b=>(h x b).2⟩
end
def q91(O:Ora prog w A s κ it n cmp)(i j:Nat):q10 prog w A E s κ it (λo:Bool=>some o) (ltAt' i j):=⟨e12 n cmp i j,N61 O i j⟩
def J52(i j:Nat):q10 prog w A E s κ it (λu:Unit=>u) (reverseSlice' i j):=⟨S02 i j,e42 i j⟩
def J62(i j:Nat):q10 prog w A E s κ it (λu:Unit=>u) (moveDown' i j):=⟨e22 i j,N71 i j⟩
def N91(x:String):q10 prog w A E s κ it (λu:Unit=>u) (liftM (rule x):StateT Á7 Sem Unit):=⟨pure (),N51⟩
def W32(O:Ora prog w A s κ it n cmp)(lo n' ok:Nat):q10 prog w A E s κ it (λ_:Unit=>true) (binarySort' lo n' ok):=by
 refine N81 (binarySort'_eq lo n' ok) ?_;refine b10 (r:=λ_:Unit=>((none,()):Option Bool × Unit)) (u00 () λk _=>?_) λ_=>b70 () rfl;refine b10 (r:=λx:Nat × Nat=>((none,x):Option Bool × Nat × Nat)) (u00 (0,k) λ_ x=>?_) λx=>b10 (J62 _ _) λ_=>b70 (â ()) rfl;exact o60 (b70 (æ x) rfl) (b10 (q91 O _ _) λo=>o60 (b70 (â (x.1,_)) rfl) (b70 (â (_,x.2)) rfl))
def u82(O:Ora prog w A s κ it n cmp)(lo z:Nat):q10 prog w A E s κ it (λm:Nat=>some m) (countRun' lo z):=by
 refine N81 (countRun'_eq lo z) ?_;refine b10 (r:=λm:Nat=>((none,m):Option (Option Nat) × Nat)) (u00 1 λ_ m=>b10 (q91 O _ _) λ_=>o60 (b70 (æ m) rfl) (b70 (â (m + 1)) rfl)) λm=>?_;refine o60 (b70 m rfl) (o60 (b10 (q91 O _ _) λ_=>o60 (b70 m rfl) (b10 (J52 _ _) λ_=>?_)) ?_)
 all_goals
  refine b10 (N91 _) λ_=>b10 (r:=λm:Nat=>((none,m,0):Option (Option Nat) × Nat × Nat)) (u00 (m + 1) λ_ m=>b10 (q91 O _ _) λ_=>o60 (o60 t90 (b70 (â (m + 1)) rfl)) (b10 (q91 O _ _) λ_=>o60 (b70 (æ m) rfl) t90)) λm=>?_;exact o60 t90 (b10 (J52 _ _) λ_=>b10 (r:=λm:Nat=>((none,m):Option (Option Nat) × Nat)) (u00 m λ_ m=>b10 (q91 O _ _) λ_=>o60 (b70 (æ m) rfl) (b70 (â (m + 1)) rfl)) λm=>b70 m rfl)
def tLt(O:Ora prog w A s κ it n cmp)(x y:Nat):q10 prog w A E s κ it (λo:Bool=>some o) (lt' (ì it x) (ì it y)):=⟨ltT n cmp x y,W51 O x y⟩
def v40(p:Array Nat)(i:Nat):q10 prog w A E s κ it (ì it) (elem' (p.map (ì it)) i):=⟨y11 p i,O30 p i⟩
def y21:Bool->Keyed->Array Keyed->Nat->Nat->Nat->StateT SortSt Sem (Option Nat):=sortPriv% PySem.Builtin.gallop
def c61(O:Ora prog w A s κ it n cmp)(left:Bool)(y:Nat)(p:Array Nat)(base z hint:Nat):q10 prog w A E s κ it (λm:Nat=>some m) (y21 left (ì it y) (p.map (ì it)) base z hint):=by
 refine b10 (r:=λb:Bool=>some b) (b10 (v40 p (base + hint)) λx=>o60 (tLt O x y) (b10 (tLt O y x) λb=>b70 (!b) rfl)) λb=>?_;refine o60 ?_ ?_ <;> refine b10 (r:=λx:Nat × Nat=>((none,x):Option (Option Nat) × Nat × Nat)) (u00 (0,1) λ_ x=>o60 (b70 (æ x) rfl) (b10 (r:=λb:Bool=>some b) (b10 (v40 p _) λx=>o60 (tLt O x y) (b10 (tLt O y x) λb=>b70 (!b) rfl)) λb=>o60 (b70 (æ x) rfl) (b70 (â (x.2,2 * x.2 + 1)) rfl))) λx=>?_
 ·exact b10 (r:=λx:Nat × Nat=>((none,x):Option (Option Nat) × Nat × Nat)) (u00 (hint + x.1 + 1,hint + min x.2 (z - hint)) λ_ x=>o60 (b70 (æ x) rfl) (b10 (r:=λb:Bool=>some b) (b10 (v40 p _) λx=>o60 (tLt O x y) (b10 (tLt O y x) λb=>b70 (!b) rfl)) λb=>o60 (b70 (â (_,x.2)) rfl) (b70 (â (x.1,_)) rfl))) λx=>b70 x.2 rfl
 ·exact b10 (r:=λx:Nat × Nat=>((none,x):Option (Option Nat) × Nat × Nat)) (u00 (hint + 1 - min x.2 (hint + 1),hint - x.1) λ_ x=>o60 (b70 (æ x) rfl) (b10 (r:=λb:Bool=>some b) (b10 (v40 p _) λx=>o60 (tLt O x y) (b10 (tLt O y x) λb=>b70 (!b) rfl)) λb=>o60 (b70 (â (_,x.2)) rfl) (b70 (â (x.1,_)) rfl))) λx=>b70 x.2 rfl
def c71{α β:Type}{r:β->α}{a b:Nat}{i:α}(b':Nat)(eb:b=b')(c:β)(ec:i=r c){body:Nat->α->StateT Á7 Sem (ForInStep α)}(h:∀ x b,q10 prog w A E s κ it (D60 r) (body x (r b))):q10 prog w A E s κ it r (forIn [a:b] i body):=⟨x30 (λx b=>(h x b).1) (b' - a) a c,by subst eb;subst ec;exact O40 λx b=>(h x b).2⟩
def tIf{α β:Type}{r:β->α}{c:Prop}[Decidable c]{m m':StateT Á7 Sem α}(c':Bool)(e:c↔c'=true)(h1:q10 prog w A E s κ it r m)(h2:q10 prog w A E s κ it r m'):q10 prog w A E s κ it r (if c then m else m'):=⟨match c' with
 |true=>h1.1
 |false=>h2.1,by
 cases c' with
 |true=>rw[if_pos (e.mpr rfl)];exact h1.2
 |false=>rw[if_neg λh=>by cases e.mp h];exact h2.2⟩
def e52:q10 prog w A E s κ it (co κ it) (get:StateT Á7 Sem Á7):=⟨get,c51⟩
def J72:Nat->StateT SortSt Sem Unit:=sortPriv% PySem.Builtin.setMinGallop
def u92(g:Nat):q10 prog w A E s κ it (λu:Unit=>u) (J72 g):=⟨modify λt=>{ t with minGallop:=g },s80 λ_=>rfl⟩
def S12(O:Ora prog w A s κ it n cmp)(left:Bool)(y:Nat)(p:Array Nat)(base z z' hint:Nat)(e:z=z'):q10 prog w A E s κ it (λm:Nat=>some m) (y21 left (ì it y) (p.map (ì it)) base z hint):=N81 (by rw[e]) (c61 O left y p base z' hint)
def O01:Array Keyed->Array Keyed->StateT SortSt Sem (Array Keyed):=sortPriv% PySem.Builtin.mergeLo
def rs{γ:Type}(it:Array Keyed)(x:Option (Array Nat) × Array Nat × γ):Option (Array Keyed) × Array Keyed × γ:=(x.1.map (Array.map (ì it)),x.2.1.map (ì it),x.2.2)
theorem sz(it:Array Keyed)(i:Nat)(p:Array Nat):(i == (p.map (ì it)).size)=true↔(i == p.size)=true:=by rw[size_map]
local macro_rules
 | `(tactic| ac_rfl)=>`(tactic| simp only[rs,D60,map_some,Option.map_none,Ù2,Array.map_push,Ð3,size_map])| `(tactic| rwa [$O:term,$p:term,$q:term,$out:term,$ia:term,$ib:term,$mg:term,$ac:term,$bc:term])=>`(tactic| exact b10 (v40 $p $ia) λy=>tIf _ (sz _ _ _) (b70 (æ (some (push $out y++Æ7 $q $ib++Æ7 $p ($ia + 1)),push $out y,$ia + 1,$ib,$mg,$ac,$bc)) (by ac_rfl)) (o60 (b70 (æ (none,push $out y,$ia + 1,$ib,$mg,$ac,$bc)) (by ac_rfl)) (b70 (â (none,push $out y,$ia + 1,$ib,$mg,$ac,$bc)) (by ac_rfl))))| `(tactic| rwa [$O:term,$p:term,$q:term,$out:term,$ia:term,$ib:term,$mg:term,$ac:term,$bc:term,$_x0:term])=>`(tactic| exact b10 (v40 $q $ib) λy=>tIf _ (sz _ _ _) (b70 (æ (some (push $out y++Æ7 $p $ia++Æ7 $q ($ib + 1)),push $out y,$ia,$ib + 1,$mg,$ac,$bc)) (by ac_rfl)) (b10 (v40 $p $ia) λz=>b10 (S12 $O true z $q ($ib + 1) _ (Õ8 $q - ($ib + 1)) 0 (by simp[rs])) λk=>o60 (tIf _ (sz _ _ _) (b70 (æ (some (push $out y++Æ7 $q ($ib + 1) ($ib + 1 + k)++Æ7 $p $ia++Æ7 $q ($ib + 1 + k)),push $out y++Æ7 $q ($ib + 1) ($ib + 1 + k),$ia,$ib + 1 + k,$mg,$ac,k)) (by ac_rfl)) ((by rwa [$O:term,$p:term,$q:term,(push $out y++Æ7 $q ($ib + 1) ($ib + 1 + k)),$ia:term,($ib + 1 + k),$mg:term,$ac:term,k]))) ((by rwa [$O:term,$p:term,$q:term,(push $out y),$ia:term,($ib + 1),$mg:term,$ac:term,k]))))| `(tactic| rwa [$O:term,$p:term,$q:term,$out:term,$ia:term,$ib:term,$mg:term,$bc:term,$_x0:term,$_x1:term,$_x2:term])=>`(tactic| exact b10 (u92 $mg) λ_=>b10 (v40 $q $ib) λy=>b10 (S12 $O false y $p $ia _ (Õ8 $p - $ia) 0 (by simp[rs])) λk=>o60 (tIf _ (sz _ _ _) (b70 (æ (some ($out++Æ7 $p $ia ($ia + k)++Æ7 $q $ib++Æ7 $p ($ia + k)),$out++Æ7 $p $ia ($ia + k),$ia + k,$ib,$mg,k,$bc)) (by ac_rfl)) (tIf _ (sz _ _ _) (b70 (æ (some ($out++Æ7 $p $ia ($ia + k)++Æ7 $p ($ia + k)++Æ7 $q $ib),$out++Æ7 $p $ia ($ia + k),$ia + k,$ib,$mg,k,$bc)) (by ac_rfl)) ((by rwa [$O:term,$p:term,$q:term,($out++Æ7 $p $ia ($ia + k)),($ia + k),$ib:term,$mg:term,k,$bc:term,rfl])))) ((by rwa [$O:term,$p:term,$q:term,$out:term,$ia:term,$ib:term,$mg:term,k,$bc:term,rfl])))
def O11(O:Ora prog w A s κ it n cmp)(p q:Array Nat):q10 prog w A E s κ it (Array.map (ì it)) (O01 (p.map (ì it)) (q.map (ì it))):=by
 refine b10 (N91 _) λ_=>b10 (v40 q 0) λx=>?_;refine tIf _ (sz it _ _) (b70 (#[x]++p.extract 0++q.extract 1) (by simp only[Ù2,Ð3,size_map,List.map_toArray,È1,map_nil])) ?_
 refine tIf _ (sz it _ _) (b70 (#[x]++q.extract 1++p.extract 0) (by simp only[Ù2,Ð3,size_map,List.map_toArray,È1,map_nil])) ?_
 refine b10 e52 λt=>?_;refine b10 (r:=rs it) (c71 (p.size + q.size) (by simp) (none,#[x],0,1,t.minGallop) (by simp[rs];rfl) λ_ st=>?_) λst=>?_
 ·obtain⟨_,out,ia,ib,mg⟩:=st;refine b10 (r:=rs it) (c71 (p.size + q.size) (by simp) (none,out,ia,ib,0,0) (by simp[rs]) λ_ st=>?_) λst=>?_
  ·obtain⟨_,out,ia,ib,ac,bc⟩:=st;refine b10 (v40 q ib) λy=>b10 (v40 p ia) λz=>b10 (tLt O y z) λo=>o60 (b10 (v40 q ib) λy=>?_) (b10 (v40 p ia) λy=>?_)
   ·exact tIf _ (sz it _ _) (b70 (æ (some (out.push y++p.extract ia++q.extract (ib + 1)),out.push y,ia,ib + 1,0,bc + 1)) (by simp[rs,D60])) (o60 (b70 (æ (none,out.push y,ia,ib + 1,0,bc + 1)) (by simp[rs,D60])) (b70 (â (none,out.push y,ia,ib + 1,0,bc + 1)) (by simp[rs,D60])))
   ·exact tIf _ (sz it _ _) (b70 (æ (some (out.push y++q.extract ib++p.extract (ia + 1)),out.push y,ia + 1,ib,ac + 1,0)) (by simp[rs,D60])) (o60 (b70 (æ (none,out.push y,ia + 1,ib,ac + 1,0)) (by simp[rs,D60])) (b70 (â (none,out.push y,ia + 1,ib,ac + 1,0)) (by simp[rs,D60])))
  ·obtain⟨o,out,ia,ib,ac,bc⟩:=st;cases o with
   |some v=>exact b70 (æ (some v,out,ia,ib,mg)) rfl
   |none =>
    refine b10 (N91 _) λ_=>?_;refine b10 (r:=rs it) (c71 (p.size + q.size) (by simp) (none,out,ia,ib,mg + 1,ac,bc) (by simp[rs]) λ_ st=>?_) λst=>?_
    ·obtain⟨_,out,ia,ib,mg,ac,bc⟩:=st;exact o60 ((by rwa [O,p,q,out,ia,ib,(mg - 1),bc,rfl,rfl,rfl])) ((by rwa [O,p,q,out,ia,ib,mg,bc,rfl,rfl,rfl]))
    ·obtain⟨o,out,ia,ib,mg,ac,bc⟩:=st;cases o with
     |some v=>exact b70 (æ (some v,out,ia,ib,mg)) rfl|none=>exact b10 (u92 (mg + 1)) λ_=>b70 (â (none,out,ia,ib,mg + 1)) rfl
 ·obtain⟨o,_⟩:=st;cases o with
  |none=>exact t90|some v=>exact b70 v rfl
def W42(t':Tw){S:Á7}(e:S=co κ it t'):q10 prog w A E s κ it (λu:PUnit=>u) (set S:StateT Á7 Sem PUnit):=⟨modify λ_=>t',by subst e;exact s80 (F:=λ_=>co κ it t') λ_=>rfl⟩
def J82{F:Á7->Á7}(G:Tw->Tw)(h:∀ t,F (co κ it t)=co κ it (G t)):q10 prog w A E s κ it (λu:Unit=>u) (modify F:StateT Á7 Sem Unit):=⟨modify G,s80 h⟩
theorem fold_map(f:Nat->Keyed)(d:Nat):∀ (l:List Nat) (j:Nat) (a:Array Nat),((l.map f).zipIdx j).foldl (λa x=>setIfInBounds a (d + x.2) x.1) (a.map f)=((l.zipIdx j).foldl (λa x=>setIfInBounds a (d + x.2) x.1) a).map f
 |[],_,_=>rfl
 |x::l,j,a=>by
  have e:(a.map f).setIfInBounds (d + j) (f x)=(a.setIfInBounds (d + j) x).map f:=by simp
  show((l.map f).zipIdx (j + 1)).foldl _ ((a.map f).setIfInBounds (d + j) (f x))=_;rw[e];exact fold_map f d l (j + 1) _
def spl(a:Array Nat)(d:Nat)(l:List Nat):Array Nat:=⟨a.toList.take d++(l++a.toList.drop (d + l.length))⟩
theorem W61(d:Nat):∀ (l:List Nat) (j:Nat) (a:Array Nat),d + j + l.length<=a.size->(l.zipIdx j).foldl (λa x=>setIfInBounds a (d + x.2) x.1) a=spl a (d + j) l
 |[],j,a,_=>by
  show a=_;unfold spl;rw[Ã9,Nat.add_zero,Ì3,List.take_append_drop]
 |x::l,j,a,h=>by
  have hl:d + j + (l.length + 1)<=a.toList.length:=h;show(l.zipIdx (j + 1)).foldl _ (a.setIfInBounds (d + j) x)=_;rw[W61 d l (j + 1) _ (by rw[Array.size_setIfInBounds];have:a.toList.length=a.size:=rfl;omega)]
  unfold spl;rw[Array.toList_setIfInBounds,List.set_eq_take_append_cons_drop,if_pos ∅]
  generalize a.toList=m at hl;have e1:(m.take (d + j)).length=d + j:=by rw[Å3];omega
  have e2:(m.take (d + j)++x::m.drop (d + j + 1)).take (d + (j + 1))=m.take (d + j)++[x]:=by
   rw[List.take_append,e1,show d + (j + 1) - (d + j)=1 by omega,È7 (Ù (Ò1 e1) ∅)]
   rfl
  have e3:(m.take (d + j)++x::m.drop (d + j + 1)).drop (d + (j + 1) + l.length)=m.drop (d + j + (l.length + 1)):=by
   rw[List.drop_append,e1,show d + (j + 1) + l.length - (d + j)=l.length + 1 by omega,Ý8 (Ù (Ò1 e1) ∅),List.drop_succ_cons,List.drop_drop,Ì3,show d + j + 1 + l.length=d + j + (l.length + 1) by omega]
  rw[e2,e3,Ä1];rfl
def J92{F:Á7->Á7}(c:Tw->Bool)(G:Tw->Tw)(h:∀ t,c t=true->F (co κ it t)=co κ it (G t)):q10 prog w A E s κ it (λu:Unit=>u) (modify F:StateT Á7 Sem Unit):=⟨λt=>match c t with
 |true=>some ((),G t)
 |false=>none,λt b t' e Q q=>by
 dsimp only at e;cases hc:c t with
 |false=>rw[hc] at e;cases e
 |true =>
  rw[hc] at e;cases e;refine Ý2 ?_;rw[h t hc];exact q⟩
def j21(O:Ora prog w A s κ it n cmp)(i:Nat):q10 prog w A E s κ it (λ_:Unit=>true) (mergeAt' i):=by
 refine b10 e52 λt=>?_;generalize (Ò6 (co κ it t))[i]?=o1;generalize (Ò6 (co κ it t))[i + 1]?=o2;rcases o1 with _ | ⟨sa,na,pw⟩
 ·exact t90
 rcases o2 with _ | ⟨sb,nb,_⟩
 ·exact t90
 refine b10 (W42 { t with pending:=(t.pending.setIfInBounds i (sa,na + nb,pw)).eraseIdxIfInBounds (i + 1) } rfl) λ_=>?_;refine b10 (v40 t.a sb) λy=>b10 (c61 O false y t.a sa na 0) λk=>?_;refine o60 (b70 () rfl) (b10 (v40 t.a _) λy=>b10 (c61 O true y t.a sb nb (nb - 1)) λnb=>o60 (b70 () rfl) (o60 (b10 (N81 ?_ (O11 O (t.a.extract (sa + k) sb) (t.a.extract sb (sb + nb)))) λv=>?_) t90))
 ·rw[Ð3,Ð3];rfl
 ·refine b10 (J92 (λu=>ble (sa + k + v.toList.length) u.a.size) (λu=>{ u with a:=spl u.a (sa + k) v.toList }) λu hu=>?_) λ_=>b10 e52 λ_=>b70 () rfl;have e:=fold_map (ì it) (sa + k) v.toList 0 u.a;rw[← Array.toList_map,W61 (sa + k) v.toList 0 u.a (Nat.le_of_ble_eq_true hu)] at e;exact congrArg (λa=>È5 κ a u.pending u.minGallop none) e
structure S22(prog:Program)(w:World)(A:Around)(E:Value->Shared->Prop)(s:Shared)(κ:SortKind)(it:Array Keyed)(z:Nat)(m:StateT SortSt Sem Unit) where
 body:Nat->Nat->TM (ForInStep Nat)
 tail:Nat->TM Unit
 sim:Sim prog w A E s κ it (λu:Unit=>u) m (x30 body z 0 0 >>= tail)
def mkH{α:Type}{r:Nat->α}{i:α}{z:Nat}(e0:i=r 0){B:Nat->α->StateT Á7 Sem (ForInStep α)}{k:α->StateT Á7 Sem Unit}(hb:∀ x lo,q10 prog w A E s κ it (D60 r) (B x (r lo)))(hk:∀ lo,q10 prog w A E s κ it (λu:Unit=>u) (k (r lo))) :
  S22 prog w A E s κ it z (forIn [0:z] i B >>= k) where
 body:=λx lo=>(hb x lo).1
 tail:=λlo=>(hk lo).1
 sim:=by
  subst e0;exact o50 (O40 λx b=>(hb x b).2) λb=>(hk b).2
structure r01(prog:Program)(w:World)(A:Around)(E:Value->Shared->Prop)(s:Shared)(κ:SortKind)(it:Array Keyed)(m:StateT SortSt Sem Unit) where
 body:Tw->Nat->Nat->TM (ForInStep Nat)
 tail:Tw->Nat->TM Unit
 sim:Sim prog w A E s κ it (λu:Unit=>u) m (get >>= λt=>x30 (body t) t.a.size 0 0 >>= tail t)
def mkW{F:Á7->StateT Á7 Sem Unit}(h:∀ t:Tw,S22 prog w A E s κ it t.a.size (F (co κ it t))):r01 prog w A E s κ it (get >>= F) where
 body:=λt=>(h t).body
 tail:=λt=>(h t).tail
 sim:=o50 c51 λt=>(h t).sim
def r01.cast{m m':StateT Á7 Sem Unit}(e:m=m')(h:r01 prog w A E s κ it m'):r01 prog w A E s κ it m:=⟨h.body,h.tail,by rw[e];exact h.sim⟩
def l30(O:Ora prog w A s κ it n cmp):r01 prog w A E s κ it sortRuns':=by
 refine r01.cast sortRuns'_eq (mkW λt=>?_);generalize hz:Õ8 (arrOf (co κ it t))=z;have hz':t.a.size=z:=Array.size_map.symm.trans hz;clear hz;subst hz';refine mkH (r:=λm:Nat=>((none,m):Option Unit × Nat)) rfl (λ_ lo=>o60 (b70 (æ lo) rfl) (b10 (u82 O _ _) λm=>?_)) (λ_=>?_)
 ·refine o60 (b10 (N91 _) λ_=>b10 (W32 O _ _ _) λ_=>o60 t90 (b10 e52 λu=>?_)) (b10 e52 λu=>?_)
  all_goals
   generalize Array.back? (Ò6 (co κ it u))=o1;rcases o1 with _ | ⟨s1,n1,_⟩
   ·exact b10 (J82 (λu=>{ u with pending:=u.pending.push (lo,_,0) }) λ_=>rfl) λ_=>b70 (â (lo + _)) rfl
   ·refine b10 (r:=λ_:Unit=>((none,()):Option Unit × Unit)) (u00 () λ_ _=>b10 e52 λu=>?_) λ_=>b10 (J82 (λu=>{ u with pending:=u.pending.modify (u.pending.size - 1) λx=>(x.1,x.2.1,_) }) λ_=>rfl) λ_=>b10 (J82 (λu=>{ u with pending:=u.pending.push (lo,_,0) }) λ_=>rfl) λ_=>b70 (â (lo + _)) rfl;dsimp only;generalize (if Õ8 (Ò6 (co κ it u)) > 1 then(Ò6 (co κ it u))[Õ8 (Ò6 (co κ it u)) - 2]? else none)=o2;rcases o2 with _ | ⟨_,_,old⟩
    ·exact b70 (æ ()) rfl
    ·exact o60 (b70 (æ ()) rfl) (b10 (j21 O _) λ_=>o60 t90 (b70 (â ()) rfl))
 ·exact b10 (r:=λ_:Unit=>((none,()):Option Unit × Unit)) (u00 () λ_ _=>b10 e52 λu=>o60 (b70 (æ ()) rfl) (b10 (j21 O _) λ_=>o60 t90 (b70 (â ()) rfl))) λ_=>b70 () rfl
end
def upN:Nat->Nat->Nat->List Nat
 |0,_,h=>[h]|b + 1,v,h=>upN b (2 * v) (h + v)++upN b (2 * v) h
def neN:Nat->Nat->Nat->List Nat
 |0,_,_=>[]|b + 1,v,h=>(h + v)::(neN b (2 * v) (h + v)++neN b (2 * v) h)
def sN(b:Nat):List Nat:=0::neN b 1 0
def A40:Nat->Nat->Nat->List Nat
 |0,_,_=>[]|k + 1,i,m=>if Nat.testBit m 0 then i::A40 k (i + 1) (m / 2) else A40 k (i + 1) (m / 2)
def c81:List Nat->List Nat->Bool
 |[],[]=>false|[],_::_=>true|_::_,[]=>false|a::r,b::q=>if beq a b then c81 r q else Õ0 a b
def A10(K i j:Nat):Bool:=c81 (A40 K 0 i) (A40 K 0 j)
section
variable {prog:ç}{w:ø}{A:ý}{E:Ã->Æ->Prop}{s:Æ}{κ:É8}{it:Array Keyed}
def T0(K:Nat):Tw:=⟨⟨Ø (2 ^ K)⟩,#[],7⟩
def TZ(K p:Nat):Tw:=⟨⟨sN K⟩,#[(0,2 ^ K,p)],7⟩
theorem D70{β:Type}{f:Nat->β->TM (ForInStep β)}{n i:Nat}{b b':β}{t t':Tw}{r:Option (β × Tw)}(h:f i b t=some (.yield b',t'))(h2:x30 f n (i + 1) b' t'=r):x30 f (n + 1) i b t=r:=by
 show Option.bind (f i b t) _=r;rw[h];exact h2
def goW{K:Nat}(O:Ora prog w A s κ it (2 ^ K) (A10 K)):TM Unit:=get >>= λt=>x30 ((l30 (E:=E) O).body t) t.a.size 0 0 >>= (l30 (E:=E) O).tail t
theorem two{K n:Nat}{t:Tw}{r:Option (Unit × Tw)}(O:Ora prog w A s κ it (2 ^ K) (A10 K))(h:x30 ((l30 (E:=E) O).body (T0 K)) (2 ^ K) 0 0 (T0 K)=some (n,t))(h2:(l30 (E:=E) O).tail (T0 K) n t=r):goW (E:=E) O (T0 K)=r:=by
 show Option.bind (x30 ((l30 (E:=E) O).body (T0 K)) (Ø (2 ^ K)).length 0 0 (T0 K)) _=r;rw[ê,h];exact h2
theorem w1(O:Ora prog w A s κ it (2 ^ 1) (A10 1)):goW (E:=E) O (T0 1)=some ((),TZ 1 0):=by kernel_rfl
theorem w2(O:Ora prog w A s κ it (2 ^ 2) (A10 2)):goW (E:=E) O (T0 2)=some ((),TZ 2 0):=by kernel_rfl
theorem w3(O:Ora prog w A s κ it (2 ^ 3) (A10 3)):goW (E:=E) O (T0 3)=some ((),TZ 3 0):=by kernel_rfl
theorem w4(O:Ora prog w A s κ it (2 ^ 4) (A10 4)):goW (E:=E) O (T0 4)=some ((),TZ 4 0):=by kernel_rfl
theorem w5(O:Ora prog w A s κ it (2 ^ 5) (A10 5)):goW (E:=E) O (T0 5)=some ((),TZ 5 0):=by kernel_rfl
theorem w6(O:Ora prog w A s κ it (2 ^ 6) (A10 6)):goW (E:=E) O (T0 6)=some ((),TZ 6 1):=by kernel_rfl
theorem W52(O:Ora prog w A s κ it (2 ^ 7) (A10 7)):(l30 (E:=E) O).body (T0 7) 0 0 (T0 7)=some (.yield 32,⟨⟨sN 5++Ã8 32 96⟩,#[(0,32,0)],7⟩):=by kernel_rfl
theorem W62(O:Ora prog w A s κ it (2 ^ 7) (A10 7)):(l30 (E:=E) O).body (T0 7) 1 32 ⟨⟨sN 5++Ã8 32 96⟩,#[(0,32,0)],7⟩=some (.yield 64,⟨⟨sN 5++(upN 5 1 32++Ã8 64 64)⟩,#[(0,32,2),(32,32,0)],7⟩):=by kernel_rfl
theorem W72(O:Ora prog w A s κ it (2 ^ 7) (A10 7)):(l30 (E:=E) O).body (T0 7) 2 64 ⟨⟨sN 5++(upN 5 1 32++Ã8 64 64)⟩,#[(0,32,2),(32,32,0)],7⟩=some (.yield 96,⟨⟨sN 6++(upN 5 1 64++Ã8 96 32)⟩,#[(0,64,1),(64,32,0)],7⟩):=by kernel_rfl
theorem W82(O:Ora prog w A s κ it (2 ^ 7) (A10 7)):(l30 (E:=E) O).body (T0 7) 3 96 ⟨⟨sN 6++(upN 5 1 64++Ã8 96 32)⟩,#[(0,64,1),(64,32,0)],7⟩=some (.yield 128,⟨⟨sN 6++(upN 5 1 64++upN 5 1 96)⟩,#[(0,64,1),(64,32,2),(96,32,0)],7⟩):=by kernel_rfl
theorem W92(O:Ora prog w A s κ it (2 ^ 7) (A10 7)):x30 ((l30 (E:=E) O).body (T0 7)) 124 4 128 ⟨⟨sN 6++(upN 5 1 64++upN 5 1 96)⟩,#[(0,64,1),(64,32,2),(96,32,0)],7⟩=some (128,⟨⟨sN 6++(upN 5 1 64++upN 5 1 96)⟩,#[(0,64,1),(64,32,2),(96,32,0)],7⟩):=by kernel_rfl
theorem X02(O:Ora prog w A s κ it (2 ^ 7) (A10 7)):(l30 (E:=E) O).tail (T0 7) 128 ⟨⟨sN 6++(upN 5 1 64++upN 5 1 96)⟩,#[(0,64,1),(64,32,2),(96,32,0)],7⟩=some ((),TZ 7 1):=by kernel_rfl
theorem w7(O:Ora prog w A s κ it (2 ^ 7) (A10 7)):goW (E:=E) O (T0 7)=some ((),TZ 7 1):=two O (D70 (W52 O) (D70 (W62 O) (D70 (W72 O) (D70 (W82 O) (W92 O))))) (X02 O)
theorem X12(O:Ora prog w A s κ it (2 ^ 8) (A10 8)):(l30 (E:=E) O).body (T0 8) 0 0 (T0 8)=some (.yield 32,⟨⟨sN 5++Ã8 32 224⟩,#[(0,32,0)],7⟩):=by kernel_rfl
theorem X22(O:Ora prog w A s κ it (2 ^ 8) (A10 8)):(l30 (E:=E) O).body (T0 8) 1 32 ⟨⟨sN 5++Ã8 32 224⟩,#[(0,32,0)],7⟩=some (.yield 64,⟨⟨sN 5++(upN 5 1 32++Ã8 64 192)⟩,#[(0,32,3),(32,32,0)],7⟩):=by kernel_rfl
theorem X32(O:Ora prog w A s κ it (2 ^ 8) (A10 8)):(l30 (E:=E) O).body (T0 8) 2 64 ⟨⟨sN 5++(upN 5 1 32++Ã8 64 192)⟩,#[(0,32,3),(32,32,0)],7⟩=some (.yield 96,⟨⟨sN 6++(upN 5 1 64++Ã8 96 160)⟩,#[(0,64,2),(64,32,0)],7⟩):=by kernel_rfl
theorem X42(O:Ora prog w A s κ it (2 ^ 8) (A10 8)):(l30 (E:=E) O).body (T0 8) 3 96 ⟨⟨sN 6++(upN 5 1 64++Ã8 96 160)⟩,#[(0,64,2),(64,32,0)],7⟩=some (.yield 128,⟨⟨sN 6++(upN 5 1 64++(upN 5 1 96++Ã8 128 128))⟩,#[(0,64,2),(64,32,3),(96,32,0)],7⟩):=by kernel_rfl
theorem X52(O:Ora prog w A s κ it (2 ^ 8) (A10 8)):(l30 (E:=E) O).body (T0 8) 4 128 ⟨⟨sN 6++(upN 5 1 64++(upN 5 1 96++Ã8 128 128))⟩,#[(0,64,2),(64,32,3),(96,32,0)],7⟩=some (.yield 160,⟨⟨sN 7++(upN 5 1 128++Ã8 160 96)⟩,#[(0,128,1),(128,32,0)],7⟩):=by kernel_rfl
theorem X62(O:Ora prog w A s κ it (2 ^ 8) (A10 8)):(l30 (E:=E) O).body (T0 8) 5 160 ⟨⟨sN 7++(upN 5 1 128++Ã8 160 96)⟩,#[(0,128,1),(128,32,0)],7⟩=some (.yield 192,⟨⟨sN 7++(upN 5 1 128++(upN 5 1 160++Ã8 192 64))⟩,#[(0,128,1),(128,32,3),(160,32,0)],7⟩):=by kernel_rfl
theorem X72(O:Ora prog w A s κ it (2 ^ 8) (A10 8)):(l30 (E:=E) O).body (T0 8) 6 192 ⟨⟨sN 7++(upN 5 1 128++(upN 5 1 160++Ã8 192 64))⟩,#[(0,128,1),(128,32,3),(160,32,0)],7⟩=some (.yield 224,⟨⟨sN 7++(upN 6 1 128++(upN 5 1 192++Ã8 224 32))⟩,#[(0,128,1),(128,64,2),(192,32,0)],7⟩):=by kernel_rfl
theorem X82(O:Ora prog w A s κ it (2 ^ 8) (A10 8)):(l30 (E:=E) O).body (T0 8) 7 224 ⟨⟨sN 7++(upN 6 1 128++(upN 5 1 192++Ã8 224 32))⟩,#[(0,128,1),(128,64,2),(192,32,0)],7⟩=some (.yield 256,⟨⟨sN 7++(upN 6 1 128++(upN 5 1 192++upN 5 1 224))⟩,#[(0,128,1),(128,64,2),(192,32,3),(224,32,0)],7⟩):=by kernel_rfl
theorem X92(O:Ora prog w A s κ it (2 ^ 8) (A10 8)):x30 ((l30 (E:=E) O).body (T0 8)) 248 8 256 ⟨⟨sN 7++(upN 6 1 128++(upN 5 1 192++upN 5 1 224))⟩,#[(0,128,1),(128,64,2),(192,32,3),(224,32,0)],7⟩=some (256,⟨⟨sN 7++(upN 6 1 128++(upN 5 1 192++upN 5 1 224))⟩,#[(0,128,1),(128,64,2),(192,32,3),(224,32,0)],7⟩):=by kernel_rfl
theorem Y02(O:Ora prog w A s κ it (2 ^ 8) (A10 8)):(l30 (E:=E) O).tail (T0 8) 256 ⟨⟨sN 7++(upN 6 1 128++(upN 5 1 192++upN 5 1 224))⟩,#[(0,128,1),(128,64,2),(192,32,3),(224,32,0)],7⟩=some ((),TZ 8 1):=by kernel_rfl
theorem w8(O:Ora prog w A s κ it (2 ^ 8) (A10 8)):goW (E:=E) O (T0 8)=some ((),TZ 8 1):=two O (D70 (X12 O) (D70 (X22 O) (D70 (X32 O) (D70 (X42 O) (D70 (X52 O) (D70 (X62 O) (D70 (X72 O) (D70 (X82 O) (X92 O))))))))) (Y02 O)
theorem Y12{K:Nat}(h1:1<=K)(h8:K<=8)(O:Ora prog w A s κ it (2 ^ K) (A10 K)):∃ p,goW (E:=E) O (T0 K)=some ((),TZ K p):=by
 match K,h1,h8,O with
 |1,_,_,O=>exact⟨_,w1 O⟩|2,_,_,O=>exact⟨_,w2 O⟩|3,_,_,O=>exact⟨_,w3 O⟩|4,_,_,O=>exact⟨_,w4 O⟩|5,_,_,O=>exact⟨_,w5 O⟩|6,_,_,O=>exact⟨_,w6 O⟩|7,_,_,O=>exact⟨_,w7 O⟩|8,_,_,O=>exact⟨_,w8 O⟩
theorem runL{K:Nat}{vs:List Ã}(h1:1<=K)(h8:K<=8)(hv:vs.length=2 ^ K)(O:Ora prog w A s κ (vs.toArray.zip vs.toArray) (2 ^ K) (A10 K)):MySort.G02 prog w A s vs (λp=>p=sN K) κ:=by
 refine⟨sN K,rfl,λE Q q=>?_⟩;obtain⟨pp,e⟩:=Y12 (E:=E) h1 h8 O;have r:=(l30 (E:=E) O).sim (T0 K) () (TZ K pp) e (λu st s'=>s'=s/\failedOf st=none/\arrOf st=((sN K).toArray).map (ì (vs.toArray.zip vs.toArray))) ⟨rfl,rfl,rfl⟩;have est:È5 κ (vs.toArray.zip vs.toArray) #[] 7 none=co κ (vs.toArray.zip vs.toArray) (T0 K):=by
  have e:=kas_range (vs.toArray.zip vs.toArray);rw[show(vs.toArray.zip vs.toArray).size=2 ^ K by simp[hv]] at e
  show _=È5 κ ((Ä7 (Ø (2 ^ K))).map (ì (vs.toArray.zip vs.toArray))) #[] 7 none;rw[e]
 rw[est];refine Å2 r (λx s' h=>?_) λ_ _ e=>e;obtain⟨rfl,h2,h3⟩:=h;exact q x.2 h2 h3
end
end TS
namespace HT
open PySem PyProof.Rows
section
open PySem.SeqAt
open PySem.AutoSeq1 (wpAny_loadPart')
open PySem.MeetsSeq PySem.MeetsSeq2 PySem.MeetsSeq3
open MySort (f10)
def leB(ns ms:List Int):Bool:=!f10 ms ns
theorem O21(x y:Int)(r q:List Int):leB (x::r) (y::q)=if x=y then leB r q else decide (x<=y):=by
 show(!(if y=x then f10 q r else decide (y < x)))=_;by_cases e:x=y
 ·rw[if_pos e,if_pos e.symm];rfl
 ·rw[if_neg e,if_neg (Â4 e)];by_cases l:y < x
  ·rw[decide_eq_true l,decide_eq_false ∅];rfl
  ·rw[decide_eq_false l,decide_eq_true ∅];rfl
theorem O31(A:ý)(s:Æ)(a:Int)(t:Tok)(c:Int)(u:Tok)(P:ç)(w:ø)(E:Ã->Æ->Prop)(Q:Ã->Æ->Prop)(h:Q (.bool (decide (a<=c))) s):Ô (Û P w) A (richCompare .LtE (.int a t) (.int c u)) Q E s :=
 (PyProof.Rows.le_int h:Ô (Û P w) A (û .LtE (.int a t) (.int c u)) Q E s)
theorem O50(l b:È)(i1 i2:Array Ã)(n n2:Nat)(dd dd2:Option È)(sl sl2:Array (Option Ã))(ns ms:List Int)(hi:Ë3 i1.toList ns)(hj:Ë3 i2.toList ms) :
  Meets (Å6.«tuple.__le__» ⟨[.ref l,.ref b],[]⟩) (λ_ R s=>s.heap.get? l=some { cls:=.type "tuple",dict:=dd,data:=.seq i1 n,slots:=sl }/\s.heap.get? b=some { cls:=.type "tuple",dict:=dd2,data:=.seq i2 n2,slots:=sl2 }/\R (.ok (.ret (.bool (leB ns ms)))) s) :=
 .of_wp λP w A R s h=>by
  obtain⟨hp,g,d,tk,os⟩:=s;obtain⟨hl,hb,h⟩:=h;have f2:=Û1;have z1:i1.size=ns.length:=by rw[← hi.length];simp
  have z2:i2.size=ms.length:=by rw[← hj.length];simp
  wp_walk using Ä9 hl,Ä9 hb,wpAny_forIn_list _ (λrest b s'=>b.1=none/\s'=⟨hp,g,d,tk,os⟩/\∃ (vs ws:List Ã) (ns' ms':List Int),rest=vs.zip ws/\Ë3 vs ns'/\Ë3 ws ms'/\ns'.length + i2.size=ms'.length + i1.size/\R (.ok (.ret (.bool (leB ns' ms')))) ⟨hp,g,d,tk,os⟩) _
  case turn =>
   rintro ⟨y,x⟩ rest b s' ⟨hb',rfl,vs,ws,ns',ms',hz,hvi,hwi,hlen,hR⟩;cases hvi with
   |nil=>rw[Ø5] at hz;cases hz
   |cons a t hvi' =>
    cases hwi with
    |nil=>rw[List.zip_nil_right] at hz;cases hz
    |cons c u hwi' =>
     rw[Ê0] at hz;injection hz with hyx hrest;injection hyx with hy hx;subst hy hx;rw[O21] at hR;simp only[Õ] at hlen;obtain⟨e,he,hiff⟩:=L91 A.in1 ⟨hp,g,d,tk,os⟩ a t c u;refine Á (he P w _ _ ?_);cases e with
     |true =>
      rw[if_pos (hiff.mp rfl)] at hR;wp_walk;exact⟨rfl,rfl,_,_,_,_,hrest,hvi',hwi',by omega,hR⟩
     |false =>
      rw[if_neg (λq=>absurd (hiff.mpr q) Í)] at hR;have hri:=O31 A.in1 ⟨hp,g,d,tk,os⟩ a t c u P w
      wp_walk using hri
      exact⟨_,rfl,by simpa using hR⟩
  case fin =>
   rintro ⟨b1,b2⟩ s' ⟨hb',rfl,vs,ws,ns',ms',hz,hvi,hwi,hlen,hR⟩;simp only at hb';subst hb';have hv:leB ns' ms'=decide (i1.size<=i2.size):=by
    cases hvi with
    |nil =>
     cases hwi with
     |nil=>simp only[Ã9] at hlen;exact(decide_eq_true ∅).symm|cons c u hw=>simp only[Ã9,Õ] at hlen;exact(decide_eq_true ∅).symm
    |cons a t hv =>
     cases hwi with
     |nil=>simp only[Ã9,Õ] at hlen;exact(decide_eq_false ∅).symm|cons c u hw=>rw[Ê0] at hz;cases hz
   rw[hv] at hR;wp_walk;exact⟨_,rfl,by simpa [tupleCompareSizes] using hR⟩
  case h=>exact⟨rfl,rfl,i1.toList,i2.toList,ns,ms,rfl,hi,hj,by omega,h⟩
end
section
variable {P:ç}{w:ø}{A:ý}{E:Ã->Æ->Prop}{s:Æ}
theorem r11{l b:È}{i1 i2:Array Ã}{ns ms:List Int}{Q:Ã->Æ->Prop}(hl:Ï1 s.heap l i1)(hb:Ï1 s.heap b i2)(hi:Ë3 i1.toList ns)(hj:Ë3 i2.toList ms)
  (hu:A.units < Ä3) (h:Q (.bool (leB ns ms)) s):Ô (Û P w) A (û .LtE (.ref l) (.ref b)) Q E s:=by
 obtain⟨⟨cls,dd,data,sl⟩,ho,hc,n,hd⟩:=id hl;obtain⟨⟨cls2,dd2,data2,sl2⟩,ho2,hc2,n2,hd2⟩:=id hb;simp only at hc hd hc2 hd2;subst hc hd hc2 hd2;exact richCompare_meets_room (op:=.LtE) ⟨_,ho,rfl⟩ ⟨_,ho2,rfl⟩ PySem.F.slot_tuple_le PySem.F.entry_tuple_le (PySem.F.args_tuple_le_2 _ _) (O50 l b i1 i2 n n2 dd dd2 sl sl2 ns ms hi hj)
  ⟨ho,ho2,show È8 (leB ns ms)≠Ò9/\Q (.bool (leB ns ms)) s from⟨(λx=>nomatch x),h⟩⟩ hu
theorem e62{t b:È}{ws:List Ã}{Q:Ã->Æ->Prop}(ht:Ï1 s.heap t #[])(hb:Ï1 s.heap b ws.toArray)(h:Q (.ref b) s):Ô (Û P w) A (Ã2 .Add (.ref t) (.ref b)) Q E s:=by
 obtain⟨⟨cls,dd,data,sl⟩,ho,hc,n,hd⟩:=id ht;obtain⟨⟨cls2,dd2,data2,sl2⟩,ho2,hc2,n2,hd2⟩:=id hb;simp only at hc hd hc2 hd2;subst hc hd hc2 hd2;exact concat_meets ⟨_,ho,rfl⟩ ⟨_,ho2,rfl⟩ Ü7 seq_tuple_add Ð5 Ï6 (Î2 _ _) (tuple_addW0 t b #[] ws.toArray n n2 dd dd2 sl sl2 (by simp)) ⟨ho,ho2,h⟩
theorem W20:seqRepeat? (.type "tuple")=pure (some (.builtin "tuple.__mul__")):=by
 first | kernel_rfl | rfl | (unfold seqRepeat?;kernel_rfl)
theorem D80:fillsNumberSlot (.type "tuple") "mul"=pure false:=by
 first | kernel_rfl | rfl
theorem r21(a:Int)(t:Tok)(l:È)(xs:Array Ã)(n:Nat)(dd:Option È)(sl:Array (Option Ã)) :
  Meets (Å6.«int.__rmul__» ⟨[.int a t,.ref l],[]⟩) (λ_ R s=>s.heap.get? l=some { cls:=.type "tuple",dict:=dd,data:=.seq xs n,slots:=sl }/\R (.ok (.ret Ò9)) s) :=
 .of_wp λP w A R s h=>by obtain⟨hp,g,d,tk,os⟩:=s;obtain⟨hl,h⟩:=h;wp_walk;exact⟨_,rfl,h⟩
theorem O41(l:È)(xs:Array Ã)(k:Int)(u:Tok)(n:Nat)(dd:Option È)(sl:Array (Option Ã))(h1:¬ (decide (k < -(2 ^ 63)) || decide (k ≥ 2 ^ 63))=true)(h2:(xs.isEmpty || k == 1)=true) :
  Meets (Å6.«tuple.__mul__» ⟨[.ref l,.int k u],[]⟩) (λ_ R s=>s.heap.get? l=some { cls:=.type "tuple",dict:=dd,data:=.seq xs n,slots:=sl }/\R (.ok (.ret (.ref l))) s) :=
 .of_wp λP w A R s h=>by
  obtain⟨hp,g,d,tk,os⟩:=s;obtain⟨hl,h⟩:=h;have f1:=Ö2
  wp_walk using Ã4 hl
  simp only[h1,if_false]
  wp_walk using Ã4 hl
  exact⟨_,rfl,h⟩
theorem mul_zero(l:È)(xs:Array Ã)(k:Int)(u:Tok)(n:Nat)(dd:Option È)(sl:Array (Option Ã))(h1:¬ (decide (k < -(2 ^ 63)) || decide (k ≥ 2 ^ 63))=true)(h2:¬ (xs.isEmpty || k == 1)=true)(h3:(decide (k<=0) || xs.isEmpty)=true) :
  Meets (Å6.«tuple.__mul__» ⟨[.ref l,.int k u],[]⟩) (λ_ R s=>s.heap.get? l=some { cls:=.type "tuple",dict:=dd,data:=.seq xs n,slots:=sl }/\R (.ok (.ret (.ref s.heap.objs.size))) { s with heap:=s.heap.push { cls:=.type "tuple",data:=.seq #[] } }) :=
 .of_wp λP w A R s h=>by
  obtain⟨hp,g,d,tk,os⟩:=s;obtain⟨hl,h⟩:=h;have f1:=Ö2
  wp_walk using Ã4 hl
  simp only[h1,if_false]
  wp_walk using Ã4 hl
  exact⟨_,rfl,h⟩
theorem O51(l:È)(xs:Array Ã)(k:Int)(u:Tok)(n:Nat)(dd:Option È)(sl:Array (Option Ã))(h1:¬ (decide (k < -(2 ^ 63)) || decide (k ≥ 2 ^ 63))=true)(h2:¬ (xs.isEmpty || k == 1)=true)(h3:¬ (decide (k<=0) || xs.isEmpty)=true)
  (h4:¬ (xs.size:Int) * k > (2 ^ 63 - 1) / 8) (h5:¬ tupleTooMany ((xs.size:Int) * k)=true) (h6:(foldl (λx y=>x++y) #[] (í k.toNat xs)).size<=sizeLine) :
  Meets (Å6.«tuple.__mul__» ⟨[.ref l,.int k u],[]⟩) (λ_ R s=>s.heap.get? l=some { cls:=.type "tuple",dict:=dd,data:=.seq xs n,slots:=sl }/\R (.ok (.ret (.ref s.heap.objs.size))) { s with heap:=s.heap.push { cls:=.type "tuple",data:=.seq (foldl (λx y=>x++y) #[] (í k.toNat xs)) } }) :=
 .of_wp λP w A R s h=>by
  obtain⟨hp,g,d,tk,os⟩:=s;obtain⟨hl,h⟩:=h;have f1:=Ö2
  wp_walk using Ã4 hl
  simp only[h1,if_false]
  wp_walk using Ã4 hl
  simp only[h4,h5,if_false];refine Á (m:=Ì1 _) (À2 (Î ?_) h6);exact⟨_,rfl,h⟩
theorem v50{t sl:È}{xs:Array Ã}{vl vu:Ã}{lo hi:Option Int}{Q:Ã->Æ->Prop}(ht:Ï1 s.heap t xs)(hs:s.heap.IsSliceOf sl vl vu .none)(pl:Ø0 vl lo)(pu:Ø0 vu hi)
  (hw:sIx xs.size 0 lo=0/\sIx xs.size xs.size hi=xs.size) (h:Q (.ref t) s):Ô (Û P w) A (Ø4 (.ref t) (.ref sl)) Q E s:=by
 obtain⟨os,hos,hcs,hds⟩:=id hs;have hTs:s.TypeIs (.ref sl) "slice":=⟨os,hos,hcs⟩;unfold Ø4;try with_reducible refine Ê8 ?_
 first | refine Á (Î ?_) | skip
 refine Á (wpAny_sequenceKey ht.typeIs (-0) ?_);refine Á (Å1 (name:=Â2 "__getitem__") ht.typeIs Â5 (Ç6 Â5 ht.typeIs entry_tuple_getitem ?_ (args_tuple_getitem _ _)))
 show Ô _ _ (tupleItemsOf (.ref t) >>= _) _ _ s;refine Á (tupleItemsOf_ ht (Á (Ï2 hTs ?_)));rw[if_pos (-0)];refine Á (p60 hs pl pu ?_)
 rw[hw.1,hw.2];show Ô _ _ (if (((0:Nat):Int) == 0&&(1:Int) == 1&&(xs.size - 0) == xs.size)=true then _ else _) _ _ s;rw[if_pos (by simp)]
 refine Á (m:=tupleIsExact _) ?_;unfold tupleIsExact;refine Á (Ï2 ht.typeIs (Î ?_));rw[if_pos (-0)]
 first
  |exact Á (Ï8 (Î ⟨_,rfl,Î h⟩))
  |exact Á (Ï8 (Á (Î (Î ⟨_,rfl,Î h⟩))))
end
end HT
namespace L2
open PySem PySem.Spec PyProof.Rows
theorem a30.sqT{K:Â}{H H':Hp}{a:È}{xs:List V}(e:a30 H H')(h:SqT K H a xs):SqT K H' a xs:=by
 rcases h with (h | ⟨o,h⟩) | h
 ·exact .inl (.inl (e _ _ h))
 ·exact .inl (.inr ⟨o,e _ _ h⟩)
 ·exact .inr h
theorem a30.new(o:HO)(n:H p=none):a30 H (upd H p o):=λb u e=>by rw[a80 (c00 e n)];exact e
def O61(K:Â)(H:Hp)(zs:List V)(Q:VK):Prop:=∀ p H',a30 H H'->SqT K H' p zs->Q (.ref p) H'
section
variable {X:Cx}{pins:List (È × Obj)}{σ:St}{H:Hp}{s:Æ}
theorem O61.here(q:O61 X.K H zs Q)(I:Inv X pins σ H s)(h:SqT X.K H a zs):EP X pins σ Q (.ref a) s:=⟨.ref a,H,I,rfl,q a H (a30.refl H) h⟩
theorem O61.new(q:O61 X.K H zs Q)(I:Inv X pins σ H s)(r:Vals zs us)(hz:zs.length<=sizeLine) :
  EP X pins σ Q (.ref s.heap.objs.size) { s with heap:=s.heap.push { cls:=.type "tuple",data:=.seq us.toArray } } :=
 have hn:H s.heap.objs.size=none:=I.hok.fresh (Ê _)
 ⟨.ref s.heap.objs.size,_,I.laid (t':=s.toks) (o:=.tup zs) (λb ob q=>Ä _ q) (Ê _) ⟨hz,_,r,Ï1.new _ _⟩,rfl,q _ _ (a30.new _ hn) (SqT.of d10)⟩
end
section
variable {X:Cx}
def Y22(K:Â):R2:=λx y H Q=>∃ a b ns ms,x=.ref a/\y=.ref b/\SqT K H a (ns.map V.int)/\SqT K H b (ms.map V.int)/\Q (.bl (HT.leB ns ms)) H
theorem v02(hu:X.A.units < Ä3):OpR X (û .LtE) (Y22 X.K):=by
 intro pins s σ H x y v u Q I rx ry h;obtain⟨a,b,ns,ms,rfl,rfl,ha,hb,q⟩:=h;cases rx;cases ry;obtain⟨v1,r1,p1,_⟩:=I.tuple ha;obtain⟨v2,r2,p2,_⟩:=I.tuple hb;exact HT.r11 p1 p2 (show Ë3 v1.toArray.toList ns from intsAre_of r1) (show Ë3 v2.toArray.toList ms from intsAre_of r2) hu ⟨.bl (HT.leB ns ms),H,I,rfl,q⟩
def K02(K:Â):R2:=λx y H Q=>∃ a b xs ys,x=.ref a/\y=.ref b/\SqT K H a xs/\SqT K H b ys/\xs.length + ys.length<=sizeLine/\O61 K H (xs++ys) Q
theorem e72:OpR X (Ã2 .Add) (K02 X.K):=by
 intro pins s σ H x y v u Q I rx ry h;obtain⟨a,b,xs,ys,rfl,rfl,ha,hb,hz,q⟩:=h;cases rx;cases ry;obtain⟨v1,r1,p1,_⟩:=I.tuple ha;obtain⟨v2,r2,p2,_⟩:=I.tuple hb;by_cases hx:xs=[]
 ·subst hx;have e:=r1.N30.mpr rfl;subst e;exact HT.e62 p1 p2 (q.here I hb)
 ·refine HT.c22 p1 p2 (λz=>hx (r1.N30.mp z)) (λz=>?_) (λz=>q.new I (r1.append r2) (by rw[ö];exact hz)) (by rw[← r1.length,← r2.length];exact hz)
  have e:=r2.N30.mp z;subst e;rw[Ã0] at q;exact q.here I ha
def K12(K:Â):R2:=λx y H Q=>∃ a k xs,x=.ref a/\y=.int k/\SqT K H a xs/\0<=k/\k < 1000000/\k.toNat * xs.length<=sizeLine/\O61 K H (í k.toNat xs).flatten Q
theorem e82:OpR X (Ã2 .Mult) (K12 X.K):=by
 intro pins s σ H x y v u Q I rx ry h;obtain⟨a,k,xs,rfl,rfl,ha,hk,hk2,hz,q⟩:=h;cases rx;obtain⟨t,rfl⟩:=ry;obtain⟨v1,r1,p1,_⟩:=I.tuple ha;have hl:=r1.length;obtain⟨⟨cls,dd,data,sl⟩,ho,hc,n,hd⟩:=id p1;simp only at hc hd;subst hc hd;have h1:¬ (decide (k < -(2 ^ 63)) || decide (k ≥ 2 ^ 63))=true:=by simp;omega
 refine wpAny_binaryOp_repeat_ref (T:="tuple") (U:="int") (-0) ⟨_,ho,rfl⟩ (λs'=>Ù9 s' k t) HT.D80 F.fills_int_mul Ó6 HT.W20 F.slot_int_index.lookup
  (È4 Ó6 (Ù9 s k t) F.entry_int_rmul (F.args_int_rmul_2 _ _) (HT.r21 k t a v1.toArray n dd sl) ⟨ho,rfl,⟨_,ho,rfl⟩,?_⟩)
 by_cases hx:v1=[]∨k=1
 ·refine È4 Û9 ⟨_,ho,rfl⟩ Ú8 (Ù1 _ _) (HT.O41 a v1.toArray k t n dd sl h1 (by rcases hx with hx | hx <;> simp[hx])) ⟨ho,?_⟩
  have e2:(í k.toNat xs).flatten=xs:=by
   rcases hx with hx | hx
   ·rw[r1.N30.mp hx];simp
   ·rw[hx];simp
  rw[e2] at q;exact q.here I ha
 ·have hv:v1≠[]:=λz=>hx (.inl z);have h2:¬ (v1.toArray.isEmpty || k == 1)=true:=by simp[hv];exact λz=>hx (.inr z)
  by_cases hk0:k=0
  ·refine È4 Û9 ⟨_,ho,rfl⟩ Ú8 (Ù1 _ _) (HT.mul_zero a v1.toArray k t n dd sl h1 h2 (by simp[hk0])) ⟨ho,?_⟩
   rw[show(í k.toNat xs).flatten=[] by rw[hk0];rfl] at q
   exact q.new I .nil (Æ6 _)
  have hpos:0 < v1.length:=List.length_pos_iff.mpr hv;have hfl:foldl (λx y=>x++y) #[] (í k.toNat v1.toArray)=(í k.toNat v1).flatten.toArray:=by
   have:=foldl_rep v1 k.toNat [];rw[Ì3] at this;exact this
  have hsz:v1.length * k.toNat<=sizeLine:=by rw[← hl,Ø9];exact hz
  have hcast:((v1.toArray.size:Nat):Int) * k=((v1.length * k.toNat:Nat):Int):=by rw[Ö,Int.natCast_mul,Int.toNat_of_nonneg ∅]
  have hline:(sizeLine:Nat)<=(2 ^ 63 - 1) / 8:=by decide
  refine È4 Û9 ⟨_,ho,rfl⟩ Ú8 (Ù1 _ _) (HT.O51 a v1.toArray k t n dd sl h1 h2 (by simp[hv];omega) (by rw[hcast];generalize v1.length * k.toNat=m at hsz;omega) (by rw[hcast];generalize v1.length * k.toNat=m at hsz;unfold tupleTooMany;intro z;have z':=of_decide_eq_true z;omega)
   (by rw[hfl,Ö,len_rep,Ø9];exact hsz)) ⟨ho,?_⟩
  rw[hfl];exact q.new I (r1.rep k.toNat) (by rw[len_rep];exact hz)
def Y32(K:Â):V->Option Int->Option Int->Hp->VK->Prop:=λx lo hi H Q=>∃ a xs,x=.ref a/\SqT K H a xs/\O61 K H (M21 xs lo hi) Q
theorem e92:SlR X (Y32 X.K):=by
 intro pins s σ H x v vl vu lo hi sl Q I rx hs pl pu h;obtain⟨a,xs,rfl,hx,q⟩:=h;cases rx;obtain⟨its,r,ht,hz⟩:=I.tuple hx;have hlen:its.toArray.size=xs.length:=by rw[Ö];exact r.length.symm
 refine⟨"tuple",_,Â5.lookup,ht.typeIs,?_⟩;by_cases hw:HT.sIx xs.length 0 lo=0/\HT.sIx xs.length xs.length hi=xs.length
 ·refine HT.v50 ht hs pl pu (by rw[hlen];exact hw) ?_
  have e:M21 xs lo hi=xs:=by unfold M21;rw[hw.1,hw.2];simp
  rw[e] at q;exact q.here I hx
 ·refine HT.A30 ht hs pl pu (by rw[hlen];exact hw) ?_ (by rw[hlen];exact hz)
  rw[hlen];exact q.new I ((r.drop (HT.sIx xs.length 0 lo)).take (HT.sIx xs.length xs.length hi - HT.sIx xs.length 0 lo)) (Ù (F70 xs lo hi) hz)
def J52(K:Â)(te ts:TE):TE:=λσ H Q=>te σ H λx H1=>ts σ H1 λy H2=>y=.int (-1)/\((∃ a xs,x=.ref a/\SqT K H2 a xs/\O61 K H2 xs.reverse Q)∨∃ a xs,x=.ref a/\SqL K H2 a xs/\∀ p,H2 p=none->Q (.ref p) (upd H2 p (.lst xs.reverse)))
theorem y31:OpR X (û .IsNot) (λx y H Q=>∃ b c,x=.bl b/\y=.bl c/\Q (.bl (b != c)) H):=by
 intro pins s σ H x y v u Q I rx ry h;obtain⟨b,c,rfl,rfl,q⟩:=h;cases rx;cases ry;exact isnot_bool (V91 I q rfl)
theorem Inv.big(I:Inv X pins σ H s):sysModules < s.heap.objs.size:=by
 have h:õ < s.heap.objs.size:=(I.mod.glob.keeps I.bk).lt;exact Nat.lt_trans (-0) h
def K22:TE:=λ_ H Q=>∀ p,H p=none->Q (.ref p) (upd H p (.dK []))
theorem f02:PE X (.Dict [] [] pos) K22:=λpins s σ H Q I h =>
 wpAny_Dict_empty ⟨.ref s.heap.objs.size,_,I.laid (a:=s.heap.objs.size) (o:=.dK []) (t':=s.toks) (λ_ _ q=>Ä _ q) (Ê _) ⟨Æ6 _,beq_eq_false_iff_ne.mpr (Â4 (ß I.big)),[],.nil,ò.DictOf.new _⟩,rfl,h _ (I.hok.fresh (Ê _))⟩
end
end L2
namespace MySort
open PySem PySem.W PyProof.Rows
section
variable {P:ç}{w:ø}{A:ý}{E:Ã->Æ->Prop}{s:Æ}
theorem c91{l:È}{o:Obj}{vs:List Ã}{n:Nat}{Q:List Ã->Æ->Prop}(ho:s.heap.get? l=some o)(hc:o.cls=.type "list"∨o.cls=.type "tuple")(hd:o.data=.seq vs.toArray n)
  (h:Q vs { s with heap:=(s.heap.push (Ã7 "list" #[] 0)).update s.heap.objs.size (Á0 (·++vs.toArray)) }) (hz:vs.length<=sizeLine):Ô (Û P w) A (collect (.ref l)) Q E s:=by
 unfold collect;refine Á (wpAny_runValue (Î0 entry_proto_collect' ?_));show Ô _ _ (do again (.builtin "list.__iadd__" ⟨[← newList [],.ref l],[]⟩)) _ _ s;refine Á (wpAny_newList (Î ⟨Code.quiet_builtin _ (by decide +kernel),Î0 entry_list_iadd' ?_⟩))
 show Ô _ _ (Ë9 (.ref s.heap.objs.size) (.ref l) (.ref s.heap.objs.size)) _ _ { s with heap:=s.heap.push (Ã7 "list" #[] 0) };unfold Ë9;have ho':(s.heap.push (Ã7 "list" #[] 0)).get? l=some o:=Ä _ ho;have fin:Ô (Û P w) A (do
   let o ← load s.heap.objs.size
   match o.data with
   |.seq xs _=>pure xs.toList
   |_=>unsupported "internal:collect") Q E { s with heap:=(s.heap.push (Ã7 "list" #[] 0)).update s.heap.objs.size (Á0 (·++vs.toArray)) }:=by
  refine Á (wpAny_load (Ý6 (Ð _ rfl) _) ?_);show Ô _ _ (pure ((#[]:Array Ã)++vs.toArray).toList) Q E _;rw[show((#[]:Array Ã)++vs.toArray).toList=vs by simp];exact Î h
 rcases hc with hc | hc
 ·refine Á (Ï2 (T:="list") ⟨o,ho',hc⟩ ?_);rw[if_pos (by rw[show(Ã5 "list" == Ã5 "list")=true by rfl];simp)]
  refine Á (Ï3 ho' hd (Á (Ï3 (xs:=#[]) (n:=0) (Ð _ rfl) rfl ?_)));rw[if_neg (by simp)]
  exact Á (Ù5 (xs:=#[]) (n:=0) (Ð _ rfl) rfl (Î fin) (Æ6 _) (by show(#[]++vs.toArray).size<=sizeLine + 1;simp only[Array.size_append,Ö,Ã9];omega))
 ·refine Á (Ï2 (T:="tuple") ⟨o,ho',hc⟩ ?_);rw[if_pos (by rw[show(Ã5 "tuple" == Ã5 "tuple")=true by rfl];simp)]
  refine Á (Ï3 ho' hd (Á (Ï3 (xs:=#[]) (n:=0) (Ð _ rfl) rfl ?_)));rw[if_neg (by simp)]
  exact Á (Ù5 (xs:=#[]) (n:=0) (Ð _ rfl) rfl (Î fin) (Æ6 _) (by show(#[]++vs.toArray).size<=sizeLine + 1;simp only[Array.size_append,Ö,Ã9];omega))
theorem y41{l:È}{o:Obj}{vs:List Ã}{Pr:List Nat->Prop}{kd:É8}{n:Nat}{Q:Ã->Æ->Prop}(ho:s.heap.get? l=some o)(hc:o.cls=.type "list"∨o.cls=.type "tuple")(hd:o.data=.seq vs.toArray n)
  (hk:∀ h',x91 s.heap h'->d82 P w A.in1.in1 { s with heap:=h' } vs Pr kd)
  (h:∀ (p:List Nat) (h':ò) (c:Nat),Pr p->(∀ b o,s.heap.get? b=some o->h'.get? b=some o)->h'.get? (s.heap.objs.size + 1)=some (Ã7 "list" (p.map λi=>vs.getD i è).toArray c)->Q (.ref (s.heap.objs.size + 1)) { s with heap:=h' }) :
  Ô (Û P w) A (call (.builtin "sorted") [.ref l]) Q E s:=by
 have h64:=(hk s.heap λ_ _ e _=>e).len;refine Calls.call_function_entry kind_sorted plain_sorted entry_sorted (args_sorted1 _) ?_;unfold Å6.«sorted»;refine Á (m:=checkCount "sorted" 1 1 _) (Î ?_);refine Á (c91 ho hc hd ?_ (by rw[Â7];omega));refine Á (wpAny_newList ?_ (by rw[Â7];omega))
 have hsz:((s.heap.push (Ã7 "list" #[] 0)).update s.heap.objs.size (Á0 (·++vs.toArray))).objs.size=s.heap.objs.size + 1:=by rw[ò.size_update,size_push']
 have hoL:(((s.heap.push (Ã7 "list" #[] 0)).update s.heap.objs.size (Á0 (·++vs.toArray))).push (Ã7 "list" vs.toArray 0)).get? (s.heap.objs.size + 1)=some (Ã7 "list" vs.toArray 0):=by rw[← hsz];exact Ð _ rfl
 have keep:∀ b o,s.heap.get? b=some o->(((s.heap.push (Ã7 "list" #[] 0)).update s.heap.objs.size (Á0 (·++vs.toArray))).push (Ã7 "list" vs.toArray 0)).get? b=some o:=λb o q=>by
  have hlt:b < s.heap.objs.size:=å q;rw[ò.get?_push_ne _ _ _ (by rw[hsz];exact ß (Í0 hlt)),ò.get?_update_ne _ _ _ _ (ß hlt),ò.get?_push_ne _ _ _ (ß hlt)];exact q
 show Ô _ _ _ _ _ { s with heap:=((s.heap.push (Ã7 "list" #[] 0)).update s.heap.objs.size (Á0 (·++vs.toArray))).push (Ã7 "list" vs.toArray 0) };rw[hsz];refine Á (Ê8 (Ç6 slot_list_sort ⟨_,hoL,rfl⟩ entry_list_sort (N41 hoL (λh' kp=>hk h' λb o e hc=>kp b o (keep b o e) hc) λp h' c hp kp hD=>⟨_,rfl,Î ⟨_,rfl,h p h' c hp (λb o e=>kp b o (ß (Í0 (å e))) (keep b o e)) hD⟩⟩) (args_list_sort _)))
end
end MySort
namespace L2
open PySem PySem.Spec PyProof.Rows
open MySort (sortedBy)
section
variable {X:Cx}
def y51(X:Cx)(H:Hp)(xs:List V)(Pr:List Nat->Prop):Prop:=∀ (pins:List (È × Obj)) (σ:St) (s:Æ) (us:List Ã),Inv X pins σ H s->Vals xs us->∃ kd,∀ h',MySort.x91 s.heap h'->MySort.d82 X.prog X.w X.A.in1.in1 { s with heap:=h' } us Pr kd
theorem q30:h00 X (.builtin "sorted") (λargs H Q=>∃ a xs,∃ Pr:List Nat->Prop,args=[.ref a]/\(SqL X.K H a xs∨SqT X.K H a xs)/\y51 X H xs Pr/\(∀ p,Pr p->∀ i∈p,i < xs.length)/\∀ p l,Pr p->H l=none->Q (.ref l) (upd H l (.lst (p.map λi=>xs.getD i .non)))):=by
 intro pins s σ H args us Q I r h;obtain⟨a,xs,Pr,rfl,hq,hk,hpr,q⟩:=h;obtain⟨u,rfl,rx⟩:=vals1 r;cases rx;have go:∀ (its:List Ã) (o:Obj) (n:Nat),Vals xs its->s.heap.get? a=some o->(o.cls=.type "list"∨o.cls=.type "tuple")->o.data=.seq its.toArray n->Ô (Û X.prog X.w) X.A (call (.builtin "sorted") [.ref a]) (EP X pins σ Q) X.xe s:=λits o n rv ho hc hd=>by
  obtain⟨kd,kw⟩:=hk pins σ s its I rv;have k0:=kw s.heap λ_ _ e _=>e;refine MySort.y41 ho hc hd kw λp h' c hp kp hD=>?_;have hn:H (s.heap.objs.size + 1)=none:=I.hok.fresh (É5 _ 1);have hlen:(p.map λi=>xs.getD i .non).length<=sizeLine:=by rw[Å,k0.all p hp,Â7];have:=k0.len;omega
  have rv':Vals (p.map λi=>xs.getD i .non) (p.map λi=>its.getD i è):=by
   have hall:=hpr p hp;clear hp hD hlen
   induction p with
   |nil=>exact .nil
   |cons i r ih =>
    refine .cons ?_ (ih λj hj=>hall j (É _ hj));have hi:=hall i Ç;obtain⟨u,hu,ru⟩:=rv.get (i:=i) (x:=xs[i]) (by simp[hi])
    have e1:xs.getD i V.non=xs[i]:=by simp[hi]
    have e2:its.getD i è=u:=by rw[Ó,hu];rfl
    show RelV (xs.getD i V.non) (its.getD i è);rw[e1,e2];exact ru
  exact⟨.ref (s.heap.objs.size + 1),_,I.laid (t':=s.toks) kp (É5 _ 1) (show l20 X.prog X.w _ h' _ (.lst _) from⟨hlen,_,c,rv',hD⟩),rfl,q p _ hp hn⟩
 rcases hq with hq | hq
 ·obtain⟨its,rv,pl,_⟩:=I.list hq;obtain⟨o,ho,hc,n,hd⟩:=pl.isList;exact go its o n rv ho (.inl hc) hd
 ·obtain⟨its,rv,⟨o,ho,hc,n,hd⟩,_⟩:=I.tuple hq;exact go its o n rv ho (.inr hc) hd
end
inductive D where
 |non | bl (b:Bool) | int (i:Int) | str (x:Str) | tup (ds:List D) | lst (ds:List D) | dct
def D.ty:D->String
 |.non=>"NoneType"|.bl _=>"bool"|.int _=>"int"|.str _=>"str"|.tup _=>"tuple"|.lst _=>"list"|.dct=>"dict"
mutual
def Has(K:Â)(H:Hp):D->V->Prop
 |.non,v=>v=.non|.bl b,v=>v=.bl b|.int i,v=>v=.int i|.str x,v=>v=.str x|.tup ds,v=>∃ a xs,v=.ref a/\SqT K H a xs/\L40 K H ds xs|.lst ds,v=>∃ a xs,v=.ref a/\SqL K H a xs/\L40 K H ds xs|.dct,v=>∃ a kvs,v=.ref a/\H a=some (.dK kvs)
def L40(K:Â)(H:Hp):List D->List V->Prop
 |[],xs=>xs=[]|d::ds,xs=>∃ x r,xs=x::r/\Has K H d x/\L40 K H ds r
end
def isB(T C:String):Bool:=T == C || (T == "bool"&&C == "int")
theorem f12(K:Â)(d:D):∀ C∈["int","bool","tuple","list","str"],PySem.W.kitOne K (.type d.ty) (.type C)=some (isB d.ty C):=by
 intro C hC;simp only[Á8,Ã1,or_false] at hC;rcases hC with rfl | rfl | rfl | rfl | rfl <;> cases d <;> first | rfl | kernel_rfl | decide +kernel
section
variable {X:Cx}
theorem O71:h00 X (.builtin "isinstance") (λxs H Q=>∃ d x C,xs=[x,.ty C]/\Has X.K H d x/\C∈["int","bool","tuple","list","str"]/\Q (.bl (isB d.ty C)) H):=by
 intro pins s σ H xs us Q I r h;obtain⟨d,x,C,rfl,hd,hC,q⟩:=h;obtain⟨u,w',rfl,rx,rt⟩:=vals2 r;cases (show w'=Ã5 C from rt);have e:=f12 X.K d C hC;have fin:∀ tk,EP X pins σ Q (.bool (isB d.ty C)) { s with toks:=tk }:=λtk=>⟨.bl _,H,I.tok tk,rfl,q⟩;cases d with
 |non=>unfold Has at hd;subst hd;cases rx;exact Õ4 kitx_none I.kIn Ê3 e (λz=>nomatch z) fin
 |bl b=>unfold Has at hd;subst hd;cases rx;exact Õ4 kitx_bool I.kIn Ê3 e (λz=>nomatch z) fin
 |int i=>unfold Has at hd;subst hd;obtain⟨t,rfl⟩:=rx;exact Õ4 kitx_int I.kIn Ê3 e (λz=>nomatch z) fin
 |str y=>unfold Has at hd;subst hd;obtain⟨t,rfl⟩:=rx;exact Õ4 kitx_str I.kIn Ê3 e (λz=>nomatch z) fin
 |tup ds =>
  unfold Has at hd;obtain⟨a,ys,rfl,hq,_⟩:=hd;cases rx;obtain⟨its,_,⟨o,h1,h2,_⟩,_⟩:=I.tuple hq;exact Õ4 kitx_tuple I.kIn ⟨o,h1,h2⟩ e (λz=>nomatch z) fin
 |lst ds =>
  unfold Has at hd;obtain⟨a,ys,rfl,hq,_⟩:=hd;cases rx;obtain⟨its,_,pl,_⟩:=I.list hq;obtain⟨o,h1,h2,_⟩:=pl.isList;exact Õ4 kitx_list I.kIn ⟨o,h1,h2⟩ e (λz=>nomatch z) fin
 |dct =>
  unfold Has at hd;obtain⟨a,kvs,rfl,hq⟩:=hd;cases rx;obtain⟨_,_,vs,_,p⟩:=(show l20 X.prog X.w H s.heap a (.dK kvs) from I.hok a _ hq);obtain⟨o,es,ep,h1,h2,_⟩:=p;exact Õ4 kitx_dict I.kIn ⟨o,h1,h2.1⟩ e (λz=>nomatch z) fin
end
def hide(st:È)(H:Hp):Hp:=λb=>if b=st then none else H b
theorem g20(st:È)(H:Hp):a30 (hide st H) H:=λb o e=>by
 unfold hide at e;split at e
 ·cases e
 ·exact e
theorem G20{st:È}{H H':Hp}(e:∀ b o,b≠st->H b=some o->H' b=some o):a30 (hide st H) (hide st H'):=λb o h=>by
 unfold hide at h ⊢;by_cases q:b=st
 ·rw[if_pos q] at h;cases h
 ·rw[if_neg q] at h ⊢;exact e b o q h
theorem O60{st b:È}{H:Hp}{o:HO}(h:H b=some o)(n:b≠st):hide st H b=some o:=by
 unfold hide;rw[if_neg n];exact h
end L2
namespace L2
open PySem PySem.Spec PyProof.Rows
theorem O81{σ:St}{H:Hp}{R:Bool->Hp->Prop}(h:R true H):M61 σ H R:=h
section
variable {X:Cx}
theorem v12(K:Â)(d:D):kitAny K (.type d.ty) [.type "tuple",.type "list"]=some (isB d.ty "tuple" || isB d.ty "list"):=by
 have e1:=f12 K d "tuple" (by simp)
 have e2:=f12 K d "list" (by simp)
 unfold kitAny;rw[e1];cases isB d.ty "tuple" with
 |true=>rfl
 |false =>
  show kitAny K (.type d.ty) [.type "list"]=_;unfold kitAny;rw[e2];cases isB d.ty "list" <;> rfl
theorem y61:h00 X (.builtin "isinstance") (λxs H Q=>∃ d x a,xs=[x,.ref a]/\Has X.K H d x/\SqT X.K H a [.ty "tuple",.ty "list"]/\Q (.bl (isB d.ty "tuple" || isB d.ty "list")) H):=by
 intro pins s σ H xs us Q I r h;obtain⟨d,x,a,rfl,hd,hq,q⟩:=h;obtain⟨u,w',rfl,rx,rt⟩:=vals2 r;cases (show w'=Ä4 a from rt);obtain⟨its,rv,⟨⟨cls,dd,data,sl⟩,ho,hc,n,hdt⟩,_⟩:=I.tuple hq;simp only at hc hdt;subst hc hdt;have eits:its=[.type "tuple",.type "list"]:=by
  cases rv with
  |cons p r=>cases r with
   |cons p2 r2=>cases r2;rw[show _=Ã5 "tuple" from p,show _=Ã5 "list" from p2]
 subst eits;have e:=v12 X.K d;have fin:∀ tk,EP X pins σ Q (.bool (isB d.ty "tuple" || isB d.ty "list")) { s with toks:=tk }:=λtk=>⟨.bl _,H,I.tok tk,rfl,q⟩;cases d with
 |non=>unfold Has at hd;subst hd;cases rx;exact Õ3 kitx_none I.kIn Ê3 ho e (λz=>nomatch z) fin
 |bl b=>unfold Has at hd;subst hd;cases rx;exact Õ3 kitx_bool I.kIn Ê3 ho e (λz=>nomatch z) fin
 |int i=>unfold Has at hd;subst hd;obtain⟨t,rfl⟩:=rx;exact Õ3 kitx_int I.kIn Ê3 ho e (λz=>nomatch z) fin
 |str y=>unfold Has at hd;subst hd;obtain⟨t,rfl⟩:=rx;exact Õ3 kitx_str I.kIn Ê3 ho e (λz=>nomatch z) fin
 |tup ds =>
  unfold Has at hd;obtain⟨b,ys,rfl,hq',_⟩:=hd;cases rx;obtain⟨_,_,⟨o,h1,h2,_⟩,_⟩:=I.tuple hq';exact Õ3 kitx_tuple I.kIn ⟨o,h1,h2⟩ ho e (λz=>nomatch z) fin
 |lst ds =>
  unfold Has at hd;obtain⟨b,ys,rfl,hq',_⟩:=hd;cases rx;obtain⟨_,_,pl,_⟩:=I.list hq';obtain⟨o,h1,h2,_⟩:=pl.isList;exact Õ3 kitx_list I.kIn ⟨o,h1,h2⟩ ho e (λz=>nomatch z) fin
 |dct =>
  unfold Has at hd;obtain⟨b,kvs,rfl,hq'⟩:=hd;cases rx;obtain⟨_,_,vs,_,p⟩:=(show l20 X.prog X.w H s.heap b (.dK kvs) from I.hok b _ hq');obtain⟨o,es,ep,h1,h2,_⟩:=p;exact Õ3 kitx_dict I.kIn ⟨o,h1,h2.1⟩ ho e (λz=>nomatch z) fin
end
open PySem PySem.Spec PyProof.Rows PySem.SeqAt
theorem O70(l b:È)(es:Array DictEntry)(n:Nat)(it:Array Ã)(n2:Nat)(dd dd2:Option È)(sl sl2:Array (Option Ã)) :
  Meets (Å6.«dict.__ne__» ⟨[.ref l,.ref b],[]⟩) (λ_ R s=>s.heap.get? l=some { cls:=.type "dict",dict:=dd,data:=.dict es n,slots:=sl }/\s.heap.get? b=some { cls:=.type "tuple",dict:=dd2,data:=.seq it n2,slots:=sl2 }/\R (.ok (.ret .notImplemented)) s) :=
 .of_wp λprog w A R s h=>by
  obtain⟨hp,g,d,tk,os⟩:=s;obtain⟨hl,hb,h⟩:=h;have f1:=F.sub_tuple_dict
  wp_walk using Ä9 hl,Ä9 hb
  exact⟨_,rfl,h⟩
theorem O80(l b:È)(es:Array DictEntry)(n:Nat)(it:Array Ã)(n2:Nat)(dd dd2:Option È)(sl sl2:Array (Option Ã)) :
  Meets (Å6.«tuple.__ne__» ⟨[.ref b,.ref l],[]⟩) (λ_ R s=>s.heap.get? l=some { cls:=.type "dict",dict:=dd,data:=.dict es n,slots:=sl }/\s.heap.get? b=some { cls:=.type "tuple",dict:=dd2,data:=.seq it n2,slots:=sl2 }/\R (.ok (.ret .notImplemented)) s) :=
 .of_wp λprog w A R s h=>by
  obtain⟨hp,g,d,tk,os⟩:=s;obtain⟨hl,hb,h⟩:=h;have f1:=F.sub_dict_tuple
  wp_walk using Ä9 hl,Ä9 hb
  exact⟨_,rfl,h⟩
section
variable {X:Cx}
theorem f22(hu:X.A.units + 64 < Ä3):OpR X (û .NotEq) (λx y H Q=>∃ a b kvs xs,x=.ref a/\y=.ref b/\H a=some (.dK kvs)/\SqT X.K H b xs/\Q (.bl true) H):=by
 intro pins s σ H x y v u Q I rx ry h;obtain⟨a,b,kvs,xs,rfl,rfl,ha,hb,q⟩:=h;cases rx;cases ry;obtain⟨v2,r2,⟨o2,h2,c2,n2,d2⟩,_⟩:=I.tuple hb;obtain⟨_,_,vs,_,p⟩:=(show l20 X.prog X.w H s.heap a (.dK kvs) from I.hok a _ ha);obtain⟨o1,es,n1,h1,c1,d1,_⟩:=p;have c1:=c1.1;obtain⟨cls,dd,data,sl⟩:=o1;obtain⟨cls2,dd2,data2,sl2⟩:=o2;simp only at c1 d1 c2 d2;subst c1 d1 c2 d2;have hne:a≠b:=λe=>by
  subst e;rw[h1] at h2;simp at h2
 have hu':X.A.units < cLine:=by omega
 refine rc_ne_decline_or (k:=false) ⟨_,h1,rfl⟩ ⟨_,h2,rfl⟩ (-0) F.sub_tuple_dict F.slot_dict_ne F.slot_tuple_ne_refl
  (λ_ hq=>È4 F.slot_dict_ne ⟨_,h1,rfl⟩ F.entry_dict_ne (F.args_dict_ne_2 _ _) (O70 a b es n1 v2.toArray n2 dd dd2 sl sl2) ⟨h1,h2,hq⟩)
  (λ_ hq=>È4 F.slot_tuple_ne_refl ⟨_,h2,rfl⟩ F.entry_tuple_ne (F.args_tuple_ne_2 _ _) (O80 a b es n1 v2.toArray n2 dd dd2 sl sl2) ⟨h1,h2,hq⟩)
  (λ_ hq=>wpAny_isSame_ref_other hne h1 h2 (by simp) hq) (.inr hu') ⟨.bl true,H,I,rfl,q⟩
end
end L2
namespace L2
open PySem PySem.Spec PyProof.Rows
section
variable {P:ç}{w:ø}{A:ý}{E:Ã->Æ->Prop}{s:Æ}
abbrev eT1(h:ò)(l:È):Heap:=h.push { cls:=.type "tuple_iterator",data:=.fields #[.ref l,.int 0 0] }
abbrev eT2(h:ò)(l:È):Heap:=(eT1 h l).push { cls:=.type "enumerate",data:=.fields #[.none,.bool false,.ref h.objs.size,rawInt 0,.none,.none] }
theorem d01(l:È)(xs:Array Ã) :
  Meets (Å6.«enumerate.__new__» ⟨[.type "enumerate",.ref l],[]⟩) (λ_ R s=>s.heap.IsTuple l xs/\R (.ok (.ret (.ref (eT1 s.heap l).objs.size))) { s with heap:=eT2 s.heap l }) :=
 .of_wp λP w A R s h=>by
  obtain⟨hp,g,d,tk,os⟩:=s;obtain⟨hl,h⟩:=h;have hsub:=sub_enumerate;have hL1:Ñ8 (Æ.heap ⟨hp,g,d,tk,os⟩) l xs:=hl
  wp_walk;refine wpAny_stack_any λq=>Î ?_;split
  ·rename_i c _ _ _ _ _;cases (c == Ã5 "enumerate") <;> (wp_walk using Ë5 hL1) <;> exact⟨_,rfl,h⟩
  ·wp_walk using Ë5 hL1
   exact⟨_,rfl,h⟩
theorem r31{l:È}{xs:Array Ã}{Q:Ã->Æ->Prop}(hl:s.heap.IsTuple l xs)
  (h:∀ h',IsEnum h' (s.heap.objs.size + 1) s.heap.objs.size 0 .none->h'.IsTupleIter s.heap.objs.size l 0->(∀ c o,s.heap.get? c=some o->h'.get? c=some o)->Q (.ref (s.heap.objs.size + 1)) { s with heap:=h' }) :
  Ô (Û P w) A (call (.type "enumerate") [.ref l]) Q E s:=by
 refine callType_new F.called_enumerate (-0) (F.typeCall_enumerate_1 _) (F.newCall_enumerate_1 _) (λobj=>F.args_object_init_2 obj _) F.entry_enumerate_new (d01 l xs) ⟨hl,?_⟩
 have n1:(eT1 s.heap l).objs.size=s.heap.objs.size + 1:=Ê9 ..;have g2:(eT2 s.heap l).get? (eT1 s.heap l).objs.size=some _:=Ð _ rfl;have g1:(eT2 s.heap l).get? s.heap.objs.size=some _:=Ä _ (Ð _ rfl);show _/\_;rw[n1] at g2;rw[n1];exact⟨⟨_,g2,rfl⟩,h _ g2 ⟨_,g1,rfl,rfl⟩ λc o q=>Ä _ (Ä _ q)⟩
theorem y71(hh:A.handled=none){it l:È}{xs:Array Ã}(n:l≠it):Draws P w A it [it,l] xs.size (λi x=>xs[i]?=some x) (λi h=>h.IsTupleIter it l i/\h.IsTuple l xs) where
 live:=λi h q=>by obtain⟨⟨o,e,_⟩,_⟩:=q;exact⟨o,e⟩
 frame:=λi h h' q k=>by
  obtain⟨⟨o,e,r⟩,⟨o',e',r'⟩⟩:=q;exact⟨⟨o,k it (by simp) _ e,r⟩,⟨o',k l (by simp) _ e',r'⟩⟩
 item:=λi s Q E hi q k=>s60 q.1 q.2 (x:=xs[i]) (by simp[hi]) λh' h1 h2=>k _ h' s.toks (by simp[hi]) ⟨h1,q.2.extBut h2.extBut n⟩ h2
 done:=λs Q E q k=>o40 hh q.1 q.2 (by simp) λh' e h1 h2=>k h' e h1 h2
end
theorem W71{P:ç}{w:ø}{A:ý}(b:Bool)(hh:A.handled=none){it l:È}{xs:Array Ã}(n:l≠it):Draws P w A it [it,l] xs.size (λi x=>xs[i]?=some x) (λi h=>V90 b h it l i/\M81 b h l xs):=match b with
 |true=>Draws.list hh it l n xs|false=>y71 hh n
def Ite(b:Bool)(K:Â)(a:È):It :=
 ⟨λi H=>∃ xs x,SqB b K H a xs/\xs[i]?=some x,
  λi H v H'=>∃ T,v=.ref T/\H T=none/\∀ xs x,SqB b K H a xs->xs[i]?=some x->H'=upd H T (.tup [.int i,x]),
  λi H=>∃ xs,SqB b K H a xs/\xs.length=i⟩
theorem y81{P:ç}{w:ø}{K:Â}{es:List Ò}{ek:Nat}{ep:Pos}{a e it:È}{b:Bool}(h1:e≠it)(h2:a≠e)(h3:a≠it) :
  Turn P w K (.Tuple es ek ep) (Ite b K a) [e,it] e (λi h=>(∃ old,IsEnum h e it i old)/\V90 b h it a i) where
 mem:=by simp
 obj:=λi h st c hc=>by
  obtain⟨⟨old,he⟩,st⟩:=st;obtain⟨o1,g1,d1,_⟩:=st.obj;simp only[Á8,Ã1,or_false] at hc;rcases hc with rfl | rfl
  ·exact⟨_,he,λv e=>by cases e⟩
  ·exact⟨_,g1,d1⟩
 keep:=λi h h' st k=>by
  obtain⟨⟨old,he⟩,st⟩:=st;obtain⟨o1,g1,_,r1⟩:=st.obj;exact⟨⟨old,k e (by simp) _ he⟩,r1 h' (k it (by simp) _ g1)⟩
 item:=by
  intro X hP hw hK hc i pins s σ H E I hf st hg;subst hP hw hK;obtain⟨xs,x,hq,hx⟩:=hg;obtain⟨v1,rv,p1,_,z1⟩:=I.M91 hq;obtain⟨u,hu,ru⟩:=rv.get hx;obtain⟨⟨old,he⟩,hi⟩:=st;have hl:i < v1.toArray.size:=by simpa using (Þ.mp hu).1
  refine wpAny_pyNext_enum_itemD (W71 (A:=X.A.in1) b (by exact I.ok.hd hc) h3) he ⟨hi,p1⟩ hl h1 (by simp[h1,h2.symm]) λy g1 tk hy ge gs gT sz kp=>⟨_,rfl,?_⟩
  have hy':v1[i]?=some y:=by simpa using hy
  rw[hu] at hy';cases hy';refine wpAny_letOwnedTupleGo_enum (s:={ s with heap:=g1,toks:=tk + 1 }) ge λg2 ge2 sb=>?_;have hT:H s.heap.objs.size=none:=I.hok.fresh (Ê _);have kall:∀ c o,c ∉ [e,it]->s.heap.get? c=some o->g2.get? c=some o:=λc o hc q=>by
   simp only[Á8,Ã1,or_false,not_or] at hc;exact sb.extBut _ _ hc.1 (kp c o hc.1 hc.2 q)
  have I2:Inv X pins σ H { s with heap:=g2,toks:=tk + 1 }:=I.N80 (t':=tk + 1) hf kall;have fT:i21 X pins H s.heap.objs.size:=I.u31 (Ê _) hT;have gT2:g2.get? s.heap.objs.size=some { cls:=.type "tuple",data:=.seq #[.int i tk,u] }:=sb.extBut _ _ (λq=>À1 _ (by have:=å he;rw[← q] at this;exact this)) gT
  have I3:Inv X pins σ (upd H s.heap.objs.size (.tup [.int i,x])) { s with heap:=g2,toks:=tk + 1 }:=I2.M51 fT I.sz (I2.hok.W21 hT (its:=[.int i tk,u]) (.cons ⟨_,rfl⟩ (.cons ru .nil)) (by show 2<=sizeLine;rw[Â7];decide) ⟨_,gT2,rfl,_,rfl⟩)
  refine⟨.ref s.heap.objs.size,_,I3,rfl,⟨_,rfl,hT,λxs' x' e1 e2=>?_⟩,⟨⟨_,ge2⟩,by obtain⟨o,q1,_,q2⟩:=gs.1.obj;exact q2 _ (sb.extBut _ _ h1.symm q1)⟩,λc hc=>?_⟩
  ·rw[z1 _ e1] at e2;rw[hx] at e2;cases e2;rfl
  ·rw[a80]
   ·exact(hf c hc).1
   ·intro q;simp only[Á8,Ã1,or_false] at hc;rcases hc with hc | hc
    ·exact À1 _ (by have:=å he;rw[← hc,q] at this;exact this)
    ·obtain⟨o,ho,_⟩:=V90.obj hi;exact À1 _ (by have:=å ho;rw[← hc,q] at this;exact this)
 done:=by
  intro X hP hw hK hc i pins s σ H E I hf st hg;subst hP hw hK;obtain⟨xs,hq,rfl⟩:=hg;obtain⟨v1,rv,p1,_,z1⟩:=I.M91 hq;obtain⟨⟨old,he⟩,hi⟩:=st;refine wpAny_pyNext_enum_endD (W71 (A:=X.A.in1) (xs:=v1.toArray) b (by exact I.ok.hd hc) h3) he ⟨by rw[show v1.toArray.size=xs.length by simpa using rv.length.symm];exact hi,p1⟩ λg kp=>⟨rfl,I.N80 (t':=s.toks) hf λc o hcn q=>?_⟩
  simp only[Á8,Ã1,or_false,not_or] at hcn;exact kp c o hcn.2 q
 self:=λ_ _ _ _ _ st h=>by obtain⟨⟨_,he⟩,_⟩:=st;exact wpAny_pyIter_enum he h
def K32(K:Â)(ta:TA):TI:=λσ H R=>ta σ H λvs H1=>∃ b a,vs=[.ref a]/\(∃ xs,SqB b K H1 a xs)/\R (Ite b K a) H1
theorem r41{P:ç}{w:ø}{A:ý}{E:Ã->Æ->Prop}{s:Æ}{b:Bool}{l:È}{xs:Array Ã}{Q:Ã->Æ->Prop}(hl:M81 b s.heap l xs)
  (h:∀ h',IsEnum h' (s.heap.objs.size + 1) s.heap.objs.size 0 .none->V90 b h' s.heap.objs.size l 0->(∀ c o,s.heap.get? c=some o->h'.get? c=some o)->Q (.ref (s.heap.objs.size + 1)) { s with heap:=h' }) :
  Ô (Û P w) A (call (.type "enumerate") [.ref l]) Q E s:=match b,hl,h with
 |true,hl,h=>call_enumerate_list hl λh' a b _ c=>h h' a b c|false,hl,h=>r31 hl h
theorem y91:î "enumerate"=some (.type "enumerate"):=by decide +kernel
theorem f32{X:Cx}{a:Ò}{es:List Ò}{ek:Nat}{ep:Pos}{ta:TA}{p pos:Pos}(hg:Gl X "enumerate")(hm:X.mg "enumerate"=none)(ha:PA X [a] ta)(hs:þ [a] X.env=[(false,eval a X.env)]:=by rfl) :
  PI X (.Tuple es ek ep) (.Call (.Name "enumerate" p) [a] [] pos) (K32 X.K ta):=by
 intro pins s σ H R I h;refine Call_ (x00 I hg hm y91 (À5 (thn (ha pos pins s σ H _ I h) λus s1 ⟨vs,H1,I1,r1,q1⟩=>?_) (by rw[hs];rfl) (by rfl)))
 obtain⟨b,l1,e,⟨xs,hq1⟩,q⟩:=q1;subst e;obtain⟨u,rfl,r⟩:=vals1 r1;cases r;obtain⟨v1,rv1,p1,a1,_⟩:=I1.M91 hq1;refine r41 p1 λh' he h1 kp=>wpAny_pyIter_enum (s:={ s1 with heap:=h' }) he ?_;refine⟨_,[s1.heap.objs.size + 1,s1.heap.objs.size],_,_,H1,rfl,I1.kept (t':=s1.toks) kp,y81 (Nat.succ_ne_self _) (ß (Í0 a1)) (ß a1),⟨⟨_,he⟩,h1⟩,λc hc=>?_,q⟩;have hc':s1.heap.objs.size<=c:=by
  simp only[Á8,Ã1,or_false] at hc;rcases hc with rfl | rfl
  ·exact É5 _ 1
  ·exact Ê _
 exact I1.u31 hc' (I1.hok.fresh hc')
end L2
namespace HT
open PySem PySem.W PyProof.Rows
set_option maxRecDepth 100000
section
variable {P:ç}{w:ø}{A:ý}{E:Ã->Æ->Prop}{s:Æ}
theorem O90{r:È}{a b c:Int}{t u v:Tok}{n:Nat}{Q:List Ã->Æ->Prop}(hh:A.handled=none)(hr:Ô0 s.heap r a b c t u v)(hs:Ð8 a b c=true)(hn:Ã3 a b c=n)(hl:n<=2 ^ 24)
  (hQ:∀ (h':ò) (tk:Nat) (acc:Array Ã),(∀ b o,s.heap.get? b=some o->h'.get? b=some o)->s.heap.objs.size<=h'.objs.size->ItemsOf (λi v=>∃ t,v=.int (a + i * c) t) acc n->Q acc.toList { s with heap:=h',toks:=tk }):Ô (Û P w) A (collect (.ref r)) Q E s:=by
 unfold collect;refine Á (wpAny_runValue (Î0 PySem.F.entry_proto_collect ?_));rw[Ò5 PySem.F.plain_proto_collect _];show Ô _ A.in1 (newList [] >>= λl=>again (.builtin "list.__iadd__" ⟨[l,.ref r],[]⟩)) _ _ s;refine Á (À2 (Î ⟨plainId_quiet Ü2 _,Î0 PySem.F.entry_list_iadd ?_⟩));rw[Ò5 Ü2 _];show Ô _ A.in1 (Ë9 (.ref s.heap.objs.size) (.ref r) (.ref s.heap.objs.size)) _ _ { s with heap:=s.heap.push (Ã7 "list" #[] 0) };have hS:(s.heap.push (Ã7 "list" #[] 0)).get? s.heap.objs.size=some { cls:=.type "list",data:=.seq #[] 0 }:=Ð _ rfl;refine Å2 (wpAny_extend_range (A:=A) (s:={ s with heap:=s.heap.push (Ã7 "list" #[] 0) }) (R:=λx s'=>x=.ok (.ret (.ref s.heap.objs.size))/\∃ h' tk acc c',s'={ s with heap:=h',toks:=tk }/\(∀ b o,s.heap.get? b=some o->h'.get? b=some o)/\h'.get? s.heap.objs.size=some { cls:=.type "list",dict:=none,data:=.seq acc c',slots:=#[] }/\ItemsOf (λi v=>∃ t,v=.int (a + i * c) t) acc n) hh (Ä _ hr) hs hn hl _ (.ref s.heap.objs.size) 0 hS λh' tk acc c' hk hS' hi=>⟨rfl,h',tk,acc,c',rfl,λb o e=>hk b o (ß (å e)) (Ä _ e),hS',hi⟩) (λfin s' h=>?_) λe s' h=>?_
 ·have go:∀ s',(∃ h' tk acc c',s'={ s with heap:=h',toks:=tk }/\(∀ b o,s.heap.get? b=some o->h'.get? b=some o)/\h'.get? s.heap.objs.size=some { cls:=.type "list",dict:=none,data:=.seq acc c',slots:=#[] }/\ItemsOf (λi v=>∃ t,v=.int (a + i * c) t) acc n)->Ô (Û P w) A (match Ä4 s.heap.objs.size with
   |Ä4 a=>do
    match (← load a).data with
     |Data.seq xs _=>pure xs.toList|_=>unsupported "internal:collect"
   |_=>unsupported "internal:collect") Q E s':=λs' ⟨h',tk,acc,c',e,hk,hS',hi⟩=>by
   subst e;show Ô _ A (load s.heap.objs.size >>= _) _ _ _;exact Á (wpAny_load hS' (Î (hQ h' tk acc hk (Í5 (å hS')) hi)))
  cases fin with
  |done f =>
   obtain⟨e,h⟩:=h;cases e;exact go _ h
  |again c'=>exact⟨h.1,Ó7 h.2 λx s'' hx=>by obtain⟨rfl,hx⟩:=hx;exact go _ hx⟩
 ·exact absurd h.1 (by simp)
open AutoSeq1 (wpAny_loadPart')
theorem G30{r:È}{a b c:Int}{t u v:Tok}{n:Nat}{Q:Ã->Æ->Prop}(hh:A.handled=none)(hr:Ô0 s.heap r a b c t u v)(hs:Ð8 a b c=true)(hn:Ã3 a b c=n)(hl:n<=200000)
  (hQ:∀ (h':ò) (tk:Nat) (acc:Array Ã),(∀ b o,s.heap.get? b=some o->h'.get? b=some o)->s.heap.objs.size<=h'.objs.size->ItemsOf (λi v=>∃ t,v=.int (a + i * c) t) acc n->Q (.ref h'.objs.size) { s with heap:=h'.push { cls:=.type "tuple",data:=.seq acc },toks:=tk }) :
  Ó8 (Û P w) A (.call (.builtin "tuple.__new__") ⟨[.type "tuple",.ref r],[]⟩) (wants Q E) s:=by
 refine codeAny_of_tree ?_;show Ô _ A.in1 (do checkBuiltinCall "tuple.__new__" ⟨[.type "tuple",.ref r],[]⟩;again (.builtin "tuple.__new__" ⟨[.type "tuple",.ref r],[]⟩)) _ _ s;refine Á (wpAny_of_eq (PySem.F.newCall_tuple_1 _) (Î ⟨plainId_quiet Ü1 _,Î0 PySem.F.entry_tuple_new ?_⟩));rw[Ò5 Ü1 _];have k1:=sub_tuple_self;have k2:=init_tuple_lookup;have k3:=madeHere_tuple;have k4:s.TypeIs (.ref r) "range":=⟨_,hr,rfl⟩
 wp_walk using Ï2 k4,O90 (n:=n) (show A.in1.handled=none from hh) hr hs hn ∅
 intro h' tk acc hk hz hi;show Ô _ _ (Ì1 acc.toList.toArray >>= λv=>ret v) _ _ _;unfold Ì1;rw[Î6];refine Á (À2 (Î (hQ h' tk acc hk hz hi)) (by show acc.size<=_;rw[hi.1,Â7];omega))
theorem tuple_range{r:È}{a b c:Int}{t u v:Tok}{n:Nat}{Q:Ã->Æ->Prop}(hh:A.handled=none)(hr:Ô0 s.heap r a b c t u v)(hs:Ð8 a b c=true)(hn:Ã3 a b c=n)(hl:n<=200000)
  (hQ:∀ (h':ò) (tk:Nat) (acc:Array Ã),(∀ b o,s.heap.get? b=some o->h'.get? b=some o)->s.heap.objs.size<=h'.objs.size->ItemsOf (λi v=>∃ t,v=.int (a + i * c) t) acc n->Q (.ref h'.objs.size) { s with heap:=h'.push { cls:=.type "tuple",data:=.seq acc },toks:=tk }):Ô (Û P w) A (call (.type "tuple") [.ref r]) Q E s:=by
 refine callType_codes (Q₁:=λobj s₁=>s₁.TypeIs obj "tuple"/\Q obj s₁) Ò0 (PySem.F.typeCall_tuple_1 _) PySem.F.entry_object_init (G30 hh hr hs hn hl λh' tk acc hk hz hi=>⟨⟨_,Ð _ rfl,rfl⟩,hQ h' tk acc hk hz hi⟩) λobj s₁ h₁=>?_;exact⟨h₁.1,PySem.F.args_object_init_2 obj _,object_init_meets Ò0.init.lookup Ò0.made (-0) P w A.in1 _ s₁ ⟨h₁.1,rfl,h₁.2⟩⟩
end
end HT
namespace L2
open PySem PySem.Spec PyProof.Rows
theorem l20.there(x:l20 P w H h a o):∃ u,h.get? a=some u:=by
 cases o with
 |lst xs=>obtain⟨_,_,_,_,e⟩:=x;exact⟨_,e⟩
 |tup xs=>obtain⟨_,_,_,o,e,_⟩:=x;exact⟨_,e⟩
 |dK kvs=>obtain⟨_,_,_,_,o,_,_,e,_⟩:=x;exact⟨_,e⟩
 |dT kvs=>obtain⟨_,_,_,_,o,_,_,e,_⟩:=x;exact⟨_,e⟩
 |set S n=>obtain⟨o,_,_,_,e,_⟩:=x;exact⟨_,e⟩
 |ins C dx fs=>obtain⟨_,_,_,e,_⟩:=x;exact⟨_,e⟩
 |own y=>obtain⟨_,e⟩:=x;exact⟨_,e⟩
 |xd fs=>obtain⟨_,⟨_,_,_,e,_⟩,_⟩:=x;exact⟨_,e⟩
 |rng lo hi=>obtain⟨_,_,_,e⟩:=x;exact⟨_,e⟩
 |frz ob u=>obtain⟨e,_⟩:=x;exact⟨_,e⟩
 |tbl ps=>exact⟨_,(show h.get? a=some _ from x)⟩|met f y=>exact⟨_,(show h.get? a=some _ from x)⟩|ext φ=>obtain⟨_,⟨_,e⟩,_⟩:=x;exact⟨_,e⟩
def InB(B:ò)(fs:List È)(H':Hp)(h h':ò):Prop:=∀ b u,h'.get? b=some u->b ∉ fs->((∃ o,h.get? b=some o)∨H' b≠none)->B.get? b=some u
def CX1(P:ç)(w:ø):CXT:=λouter H s E e s'=>∃ (a:È) (cls a0:Ã) (H':Hp) (B:ò),e=.ref a/\s'.os=s.os/\Ô1 s'.gens/\Un (frs outer) [] H H' s.heap s'.heap/\HOk P w H' s'.heap /\
 ò.FlyingW B outer a cls a0 s'.heap/\H' a=none/\InB B (frs outer) H' s.heap s'.heap/\E cls (some a) H'
section
variable {X:Cx}{pins:List (È × Obj)}{σ:St}{H H':Hp}{s s':Æ}{B h'':ò}{a:È}{cls a0:Ã}{E:XK}
theorem z01(hS:X.stack=X.env::X.outer)(hx:X.ex=[])(hf:X.env.frame=some X.env.locals)(I:Inv X pins σ H s)(os:s'.os=s.os)(bare:Ô1 s'.gens)(un:Un (frs X.stack) [] H H' s.heap s'.heap)(hok:HOk X.prog X.w H' s'.heap)
  (bB:InB B (frs X.stack) H' s.heap s'.heap) (na:H' a=none) (fl:ò.FlyingW B X.outer a cls a0 h'') (sm:s'.heap.UpToSlots h'') (he:E cls (some a) H'):CX1 X.prog X.w X.outer X.H₀ X.s₀ E (.ref a) { s' with heap:=h'' }:=by
 have hfs:frs X.stack=X.env.locals::frs X.outer:=by rw[hS];unfold frs;rw[Â0,hf]
 have U1:=I.base;rw[hx] at U1;have U:Un (frs X.stack) [] X.H₀ H' X.s₀.heap s'.heap:=(U1.mono (λb hb=>by rw[hfs];exact É _ hb) λb hb=>hb).trans un
 have nL:∀ b o,X.s₀.heap.get? b=some o->b ∉ frs X.outer->b ∉ frs X.stack:=λb o e hn hm=>by
  rw[hfs] at hm;rcases à.mp hm with z | z
  ·exact absurd (å e) (by rw[z];exact Nat.not_lt.mpr I.ok.above)
  ·exact hn z
 have frN:∀ b∈frs X.stack,H' b=none:=λb hb=>by
  obtain⟨_,o,ho,_⟩:=I.stack.mem hb;exact un.free b o ho (I.b51 b hb) (by simp)
 have old:∀ b o,X.s₀.heap.get? b=some o->b ∉ frs X.outer->∃ u,s'.heap.get? b=some u/\B.get? b=some u:=λb o e hn=>by
  obtain⟨o1,e1⟩:=U1.there b o e (by simp)
  obtain⟨o2,e2⟩:=un.there b o1 e1 (by simp)
  exact⟨o2,e2,bB b o2 e2 (nL b o e hn) (.inl ⟨o1,e1⟩)⟩
 have trk:∀ b,H' b≠none->∃ u,s'.heap.get? b=some u/\B.get? b=some u:=λb hb=>by
  obtain⟨o,e⟩:=Û0.mp hb;obtain⟨u,eu⟩:=(hok b o e).there;exact⟨u,eu,bB b u eu (λhm=>by rw[frN b hm] at e;cases e) (.inr hb)⟩
 refine⟨a,cls,a0,H',B,rfl,os.trans I.os,bare,⟨λb o e n hb _=>?_,λb o e n hb _=>?_,λb o e n hb=>U.free b o e n hb,λb o e _=>?_,U.tups,U.frzs,U.tbls⟩,λc o e=>?_,fl,na,λb u e hn hor=>?_,he⟩
 ·obtain⟨u,e1,e2⟩:=old b o e hb;have e3:=U.keep b o e n (nL b o e hb) (by simp)
  rw[e1] at e3;cases e3;exact fl.1 b _ e2
 ·obtain⟨sl,e1⟩:=U.slot b o e n (by rw[hfs];exact É _ hb) (by simp)
  obtain⟨_,o',ho',hd⟩:=I.ok.K61.mem hb;rw[e] at ho';cases ho';obtain⟨sl',e2⟩:=sm b _ e1 hd;exact⟨sl',e2⟩
 ·by_cases hb:b∈frs X.outer
  ·obtain⟨_,o',ho',_⟩:=fl.2.2.1.mem hb;exact⟨o',ho'⟩
  ·obtain⟨u,_,e2⟩:=old b o e hb;exact⟨u,fl.1 b _ e2⟩
 ·refine(hok c o e).L01 (λb u hb q=>?_) (λ_ q=>q) λ_ _ q=>q;have hbn:H' b≠none:=by
   rcases hb with rfl | hb
   ·rw[e];exact λz=>nomatch z
   ·rw[hb];exact λz=>nomatch z
  obtain⟨u',e1,e2⟩:=trk b hbn;rw[q] at e1;cases e1;exact fl.1 b _ e2
 ·have:∃ u',B.get? b=some u':=by
   rcases hor with ⟨o,ho⟩ | hor
   ·obtain⟨u',_,e2⟩:=old b o ho hn;exact⟨u',e2⟩
   ·obtain⟨u',_,e2⟩:=trk b hor;exact⟨u',e2⟩
  obtain⟨u',e2⟩:=this;have e3:=fl.1 b _ e2;rw[e] at e3;cases e3;exact e2
end
section
variable {P:ç}{w:ø}{K:Â}{mg:Str->Option Ã}{base:ò}{N:List Str}{qual:Str}{scope:Á2}{f:È}{cd:Ã}{A:ý}{outer:List Env}{s₀:Æ}{H₀:Hp}{E:XK}
theorem z11(I:Inv (V10 (CX1 P w) P w K mg base N qual scope f cd A outer s₀ H₀ E) pins σ H s)(hx:ò.MadeExcOf s.heap h' e cls vs)(he:E cls (some e) H) :
  (V10 (CX1 P w) P w K mg base N qual scope f cd A outer s₀ H₀ E).xe (.ref e) { s with heap:=h' }:=by
 have hin:∀ env∈(V10 (CX1 P w) P w K mg base N qual scope f cd A outer s₀ H₀ E).stack,∀ a,env.frame=some a->a∈frs (V10 (CX1 P w) P w K mg base N qual scope f cd A outer s₀ H₀ E).stack:=λenv he a ha=>Õ9.mpr ⟨env,he,ha⟩;have kB:(hideAll s.heap (frs (V10 (CX1 P w) P w K mg base N qual scope f cd A outer s₀ H₀ E).stack)).StaysIn s.heap:=λb o q=>of_hideAll _ q;show Ô _ _ (leaving _ _) _ _ _;refine wpAny_leaves_madeW (base:=hideAll s.heap (frs (V10 (CX1 P w) P w K mg base N qual scope f cd A outer s₀ H₀ E).stack)) (h:=s.heap) I.ok.frames rfl kB (PySem.W.funFrames_hide I.stack hin) hx λh'' t fl _ _ sm=>?_;have na:H e=none:=by
  cases z:H e with
  |none=>rfl|some o=>obtain⟨u,eu⟩:=(I.hok e o z).there;rw[hx.new] at eu;cases eu
 refine z01 (X:=V10 (CX1 P w) P w K mg base N qual scope f cd A outer s₀ H₀ E) (s':={ s with heap:=h' }) rfl rfl rfl I rfl I.bare (Un.kept hx.keeps) (I.hok.kept hx.keeps) (λb u q hn hor=>?_) na fl sm he;have:∃ o,s.heap.get? b=some o:=by
  rcases hor with hor | hor
  ·exact hor
  ·obtain⟨o,z⟩:=Û0.mp hor;exact(I.hok b o z).there
 obtain⟨o,ho⟩:=this;have:=hx.keeps b o ho;have q':h'.get? b=some u:=q;rw[this] at q';cases q';exact hideAll_get _ ho hn
theorem K42:Passes (CX1 P w) (V10 (CX1 P w) P w K mg base N qual scope f cd A outer s₀ H₀ E) E:=by
 intro pins σ H s e s' I h;obtain⟨a,cls,a0,H',B,rfl,os,bare,un,hok,fl,na,bB,he⟩:=h;show Ô _ _ (leaving _ _) _ _ _;refine wpAny_leaves_onW I.ok.frames rfl fl λh'' fl' sm=>?_;exact z01 (X:=V10 (CX1 P w) P w K mg base N qual scope f cd A outer s₀ H₀ E) (s':=s') rfl rfl rfl I os bare un hok bB na fl' sm he
end
theorem f42{K:Â}{h:ò}{C:È}{bmB:List Ã}{newId:String}(KX:K.In h)(hq:Î1 K C bmB newId=true) :
  ∃ bm N nm q bs hdct sn sub ab col dd k0 k1 k2 k3 k5 mN,h.get? C=some (excClassObj nm q C N bs bm hdct sn sub ab col dd k0 k1 k2 k3 k5 newId)/\h.Ns N mN/\mN "__init__"=none/\OwnTail h bmB bm:=by
 unfold Î1 at hq;split at hq
 case h_2=>cases hq
 case h_1 dd cd sl ho =>
  split at hq
  case h_2=>cases hq
  case h_1 C' bm k0 k1 k2 k3 n k5 hm hs =>
   simp only[À,beq_iff_eq,á] at hq;obtain⟨⟨⟨⟨⟨z1,z2⟩,hdel⟩,ht⟩,hok⟩,hni⟩:=hq;subst z1 z2;cases cd with
   |mk nm bs mro ns qn hd sn sub ab col del =>
    dsimp only at hm hdel hok hni;subst hm hdel;have esl:sl=#[k0,k1,k2,k3,some (.builtin n),k5]:=by cases sl with | mk l=>simp only at hs;rw[hs]
    subst esl;refine⟨bm,ns,nm,qn,bs,hd,sn,sub,ab,col,dd,k0,k1,k2,k3,k5,h.nsMap ns,KX _ _ ho,?_,PySem.W.nsMap_none_of_in KX hok hni,PySem.W.tail_of_in KX ht⟩;exact .of_isNs (PySem.W.isNs_of_in KX hok)
def P00(X:Cx)(E:XK):Prop:=∀ (pins:List (È × Obj)) (σ:St) (H:Hp) (s:Æ) (h':ò) (e:È) (cls:Ã) (vs:List Ã),Inv X pins σ H s->ò.MadeExcOf s.heap h' e cls vs->E cls (some e) H->X.xe (.ref e) { s with heap:=h' }
theorem z21{P:ç}{w:ø}{K:Â}{mg:Str->Option Ã}{base:ò}{N:List Str}{qual:Str}{scope:Á2}{f:È}{cd:Ã}{A:ý}{outer:List Env}{s₀:Æ}{H₀:Hp}{E:XK} :
  P00 (V10 (CX1 P w) P w K mg base N qual scope f cd A outer s₀ H₀ E) E:=λ_ _ _ _ _ _ _ _ I hx he=>z11 I hx he
def v22(E:XK)(C:È)(t:TA):TS:=λ_ σ H=>t σ H λvs H1=>vs.length<=sizeLine/\∀ e,H1 e=none->E (.ref C) (some e) H1
section
variable {X:Cx}{x:Str}{C:È}{E:XK}{e₀:Ò}{rest:List Ò}{t:TA}{np cpos pos:Pos}
theorem O91(hE:P00 X E)(hc:X.calm=true)(hg:Gl X x)(hm:X.mg x=some (.ref C))(hq:Î1 X.K C [.type "ValueError",.type "Exception",.type "BaseException",.type "object"] "ValueError.__new__"=true)(ha:PA X (e₀::rest) t)
  (hdb:(x == ("__debug__":Str))=false:=by decide) (he:þ (e₀::rest) X.env=(false,eval e₀ X.env)::þ rest X.env:=by rfl) (hpl:(Ó9 cpos (þ rest X.env)).any (·.1)=false:=by rfl) :
  PS X (.Raise (some (.Call (.Name x np) (e₀::rest) [] cpos)) none pos) (v22 E C t):=by
 intro pins s σ H D I h;obtain⟨bm,N,nm,q,bs,hdct,sn,sub,ab,col,dd,k0,k1,k2,k3,k5,mN,hC,hN,hni,T⟩:=f42 I.ok.mod.kin hq;refine wpAny_Raise_call_subT (C:=C) (nm:=nm) (q:=q) (N:=N) (bs:=bs) (bm:=bm) (hdct:=hdct) (sn:=sn) (sub:=sub) (ab:=ab) (col:=col) (dd:=dd) (k0:=k0) (k1:=k1) (k2:=k2) (k3:=k3) (k5:=k5)
  Ú2 (mN:=mN) (T.hasType Ú2.hasBase) (I.ok.hd hc) (by rw[he];exact hpl) hni (b61 I hg hm ⟨rfl,?_⟩ hdb)
 have k:=ha cpos pins s σ H _ I h;rw[he] at k ⊢;refine Þ6 (thn k λus s2 ⟨vs,H2,I2,r,z,q⟩=>⟨rfl,by show us.length<=_;rw[← r.length];exact z,I2.bk _ _ hC,hN.keeps I2.bk,T.keeps I2.bk,λh' e hx=>?_⟩)
 refine hE pins σ H2 s2 h' e _ us I2 hx (q e ?_);cases z:H2 e with
 |none=>rfl|some o=>obtain⟨u,eu⟩:=(I2.hok e o z).there;rw[hx.new] at eu;cases eu
end
open PySem PySem.Spec PyProof.Rows PySem.W PySem.Builtin PySem.Builtin.ObjectAttr PySem.Builtin.Getset_descriptor
end L2
namespace L2
open PySem PySem.Spec PyProof.Rows
def recAt(c:È)(qual:Str):ò->Prop:=λh=>h.CodeRec (.ref c) qual
def Tab(H:Hp)(P:È)(qual:Str):Prop:=∃ ps:Array Ã,H P=some (.tbl ps)/\TriplesOk ps.toList/\∀ pos c,codeAmong pos ps.toList=some c->∃ c',c=.ref c'/\H c'=some (.ext (recAt c' qual))
def BMain(mg:Str->Option Ã)(h:ò):Prop:=∃ bm ob,mg "__builtins__"=some (.ref bm)/\bm≠builtinsNs/\h.get? bm=some ob/\ob.cls=.type "module"/\ob.dict=some builtinsNs/\ob.data=.plain
theorem v32{P:ç}{w:ø}{X:Cx}:Passes (CX1 P w) X (λ_ _ _=>False):=λ_ _ _ _ _ _ _ h=>by
 obtain⟨_,_,_,_,_,_,_,_,_,_,_,_,_,e⟩:=h;exact e.elim
theorem Tab.same{H H':Hp}{P:È}{q:Str}(t:Tab H P q)(s:a30 H H'):Tab H' P q:=by
 obtain⟨ps,e,tr,h⟩:=t;refine⟨ps,s _ _ e,tr,λpos c hc=>?_⟩;obtain⟨c',e1,e2⟩:=h pos c hc;exact⟨c',e1,s _ _ e2⟩
abbrev Ke:=List Int × È × Ã
def Y42(x:Ke):DictEntry:=⟨reduceHash (Å6.Tuple.tupleHashOf (x.1.map hashInt)),.ref x.2.1,x.2.2⟩
def P01(d:È)(xs:List Ke)(h:ò):Prop:=∃ o es ep,h.get? d=some o/\o.ExactDict/\o.data=.dict es ep/\es.toList=xs.map Y42/\(xs.map (·.1)).Nodup
def r51(K:Â)(H:Hp)(d:È)(kss:List (List Int)):Prop:=∃ xs:List Ke,H d=some (.ext (P01 d xs))/\(d == sysModules)=false/\(∀ x∈xs,SqT K H x.2.1 (x.1.map V.int))/\∀ ks,ks∈xs.map (·.1)↔ks∈kss
theorem r51.same{K:Â}{H H':Hp}{d:È}{kss:List (List Int)}(h:r51 K H d kss)(e:∀ b o,H b=some o->H' b=some o):r51 K H' d kss:=by
 obtain⟨xs,h1,h2,h3,h4⟩:=h;exact⟨xs,e _ _ h1,h2,λx hx=>a30.sqT e (h3 x hx),h4⟩
theorem items_int{P:ç}{w:ø}:∀ {ks:List Int}{its:List Ã},Vals (ks.map V.int) its->ItemsAre (Ñ7 P w) ks its
 |[],_,h=>by cases h;exact .nil
 |k::ks,_,h=>by
  cases h with
  |cons r t =>
   obtain⟨u,rfl⟩:=r;exact .cons (by show Ã.isInt k (.int k u)=true;simp[Ã.isInt]) (items_int t)
section
variable {X:Cx}{pins:List (È × Obj)}{σ:St}{H:Hp}{s:Æ}
theorem key_is(I:Inv X pins σ H s){b:È}{ks:List Int}(h:SqT X.K H b (ks.map V.int)):Ú7 (Ñ7 X.prog X.w) s.heap ks b:=by
 obtain⟨its,rv,⟨o,e,c,n,d⟩,_⟩:=I.tuple h;exact⟨o,its.toArray,n,e,c,d,items_int rv⟩
theorem P10:∀ {xs:List Ke}{ks:List Int},(atKey xs ks).isSome=decide (ks∈xs.map (·.1))
 |[],_=>rfl
 |x::r,ks=>by
  have ih:=@P10 r ks;unfold atKey at ih ⊢;rw[List.find?_cons];by_cases h:x.1=ks
  ·simp[h]
  ·have h':¬ ks=x.1:=λz=>h z.symm;simp only[h,decide_false,ih,È1,Á8,h',false_or]
def G12(o:Bool):CmpOp:=match o with
 |true=>.In|false=>.NotIn
def v42(K:Â)(o:Bool):R2:=λx y H Q=>∃ b ks d kss,x=.ref b/\y=.ref d/\SqT K H b (ks.map V.int)/\r51 K H d kss/\Q (.bl (decide (ks∈kss) == o)) H
theorem z31(o:Bool)(hu:X.A.units + 1 < Ä3):OpR X (û (G12 o)) (v42 X.K o):=by
 intro pins s σ H x y v u Q I rx ry h;obtain⟨b,ks,d,kss,rfl,rfl,hb,⟨xs,h1,h2,h3,h4⟩,q⟩:=h;cases rx;cases ry;obtain⟨⟨ob,es,ep,e1,e2,e3,e4,e5⟩,_,_⟩:=I.hok d _ h1;have ek:decide (ks∈xs.map (·.1))=decide (ks∈kss):=decide_eq_decide.mpr (h4 ks);cases o with
 |true =>
  refine wpAny_in_heap (knd:=tupleKind (Ñ7 X.prog X.w)) (tupleKind_room_in1 hu) (key_is I hb) h2 ⟨ob,es,ep,e1,e2,e3,e4,λx hx=>key_is I (h3 x hx),e5⟩ ?_;rw[P10,ek];rw[show(decide (ks∈kss) == true)=decide (ks∈kss) by cases decide (ks∈kss) <;> rfl] at q
  exact⟨.bl _,H,I.tok _,rfl,q⟩
 |false =>
  refine wpAny_notIn_heap (knd:=tupleKind (Ñ7 X.prog X.w)) (tupleKind_room_in1 hu) (key_is I hb) h2 ⟨ob,es,ep,e1,e2,e3,e4,λx hx=>key_is I (h3 x hx),e5⟩ ?_;rw[P10,ek];rw[show(decide (ks∈kss) == false)=!decide (ks∈kss) by cases decide (ks∈kss) <;> rfl] at q
  exact⟨.bl _,H,I.tok _,rfl,q⟩
end
theorem d11{xs:List Ke}{k ks:List Int}{a:È}{v:Ã}:ks∈(Û3 xs k a v).map (·.1)↔ks∈xs.map (·.1)∨ks=k:=by
 unfold Û3;rw[P10];split
 ·rename_i h;have h:=of_decide_eq_true h;have e:(xs.map (putAt k v)).map (·.1)=xs.map (·.1):=by
   rw[Ü];exact Á9 λx _=>by show(putAt k v x).1=x.1;unfold putAt;split <;> rfl
  rw[e];exact⟨.inl,λz=>z.elim id λz=>z ▸ h⟩
 ·simp
theorem r61{xs:List Ke}{k:List Int}{a:È}{v:Ã}{x:Ke}(h:x∈Û3 xs k a v):(∃ y∈xs,y.1=x.1/\y.2.1=x.2.1)∨(x.1=k/\x.2.1=a):=by
 unfold Û3 at h;split at h
 ·obtain⟨y,hy,rfl⟩:=Ë.mp h;exact .inl ⟨y,hy,by unfold putAt;split <;> rfl,by unfold putAt;split <;> rfl⟩
 ·rcases ó.mp h with h | h
  ·exact .inl ⟨x,h,rfl,rfl⟩
  ·cases ù.mp h;exact .inr ⟨rfl,rfl⟩
theorem r71{xs:List Ke}{k:List Int}{a:È}{v:Ã}:(Û3 xs k a v).length<=xs.length + 1:=by
 unfold Û3;split <;> simp
section
variable {P:ç}{w:ø}{A:ý}{R:Result->Æ->Prop}{s:Æ}
theorem r81{x:Str}{p1 p2 px ps:Pos}{k2:Nat}{iter:Ò}{sc:Á2}{I D a:È}{en:Env}{its:Array Ã}{m:Str->Option Ã}{kss:List (List Int)}(hu:A.units < Ä3)(hh:A.handled=none)(hI:a≠I)
  (hl:kss.length=its.size) (hz:its.size<=sizeLine) (ka:∀ (i:Nat) (ks:List Int),kss[i]?=some ks->∃ b:È,its[i]?=some (Ä4 b)/\b≠I/\b≠D/\b≠en.locals/\Ú7 (Ñ7 P w) s.heap ks b)
  (hx:en.kindOf x=some .local) (hk:en.scope.kind=.function) (hd:(x == ("__debug__":Str))=false) (hDC:D≠en.locals) (hDI:D≠I) (hDa:D≠a) (hCI:en.locals≠I) (hCa:en.locals≠a)
  (st:s.heap.IsListIter I a 0/\s.heap.IsList a its) (ac:P01 D [] s.heap) (hn:s.heap.Ns en.locals m)
  (hR:∀ (h':ò) (tk:Nat) m' (xs:List Ke),h'.Ns en.locals m'->P01 D xs h'->(∀ ks,ks∈xs.map (·.1)↔ks∈kss)->(∀ x∈xs,∃ i:Nat,kss[i]?=some x.1/\its[i]?=some (Ä4 x.2.1))->(∀ b o,b≠en.locals->b≠I->b≠D->s.heap.get? b=some o->h'.get? b=some o)->R (.ok .next) { s with heap:=h',toks:=tk }) :
  Ó8 (Û P w) A (.compLoop (.DictComp (.Name x p1) (.Constant (.bool true) k2 p2) [⟨.Name x px,iter,[],0⟩] sc ps) 0 (.ref I) (.ref D) en) R s:=by
 have W:=Walks.list (prog:=P) (w:=w) hh I a hI its;have keyS:∀ {h':ò}{ks:List Int}{b:È},(∀ b o,b≠en.locals->b≠I->b≠D->s.heap.get? b=some o->h'.get? b=some o)->b≠I->b≠D->b≠en.locals->Ú7 (Ñ7 P w) s.heap ks b->Ú7 (Ñ7 P w) h' ks b:=λk n1 n2 n3 ⟨o,i,n,e,r⟩=>⟨o,i,n,k _ o n3 n1 n2 e,r⟩;refine codeAny_compLoop_testsD (λn s'=>∃ (i:Nat) (h':ò) (tk:Nat) (m':Str->Option Ã) (xs:List Ke),s'={ s with heap:=h',toks:=tk }/\i<=its.size/\n=its.size + 1 - i/\(h'.IsListIter I a i/\h'.IsList a its)/\P01 D xs h'/\h'.Ns en.locals m'/\xs.length<=i/\(∀ ks,ks∈xs.map (·.1)↔ks∈kss.take i) /\
  (∀ x∈xs,∃ i:Nat,kss[i]?=some x.1/\its[i]?=some (Ä4 x.2.1))/\∀ b o,b≠en.locals->b≠I->b≠D->s.heap.get? b=some o->h'.get? b=some o) ?_ (its.size + 1)
  ⟨0,s.heap,s.toks,m,[],rfl,Æ6 _,rfl,st,ac,hn,Æ6 _,λks=>(by simp),λx hx=>(by simp at hx),λ_ _ _ _ _ e=>e⟩
 rintro n s' ⟨i,h',tk,m',xs,rfl,hi,rfl,st',ac',hn',hxl,hks,had,hkp⟩;by_cases hlt:i < its.size
 ·refine W.item i _ _ _ hlt st' λv h1 tk1 hv st1 k1=>?_;have hv':kss[i]?=some kss[i]:=Ñ ∅
  obtain⟨b,hb,bI,bD,bC,isb⟩:=ka i _ hv';have hv0:its[i]?=some v:=hv;rw[hb] at hv0;cases hv0;refine Û2 (wpAny_storeName_local hx (hn'.at' λo e=>k1 _ o (by simpa using hCI) e) (λh2 hn2 sb2=>?_) (by rw[hk];rfl))
  have k2:∀ b o,b≠en.locals->b≠I->h'.get? b=some o->h2.get? b=some o:=λb o z1 z2 e=>sb2.extBut b o z1 (k1 b o (by simpa using z2) e)
  refine wpAny_tests_nil ?_;rw[if_pos rfl];refine wpAny_Name (Ö4 (v:=.ref b) hk hx hn2 (by simp) ?_) hd
  refine Constant_bool ?_;obtain⟨o,es,ep,e1,e2,e3,e4,e5⟩:=ac';have kall:∀ b o,b≠en.locals->b≠I->b≠D->s.heap.get? b=some o->h2.get? b=some o:=λb o z1 z2 z3 e=>k2 b o z1 z2 (hkp b o z1 z2 z3 e);have isK:∀ x∈xs,Ú7 (Ñ7 P w) h2 x.1 x.2.1:=λx hx=>by
   obtain⟨j,q1,q2⟩:=had x hx;obtain⟨b',r1,r2,r3,r4,r5⟩:=ka j _ q1;rw[q2] at r1;cases r1;exact keyS kall r2 r3 r4 r5
  refine wpAny_dictSet_heap (hsz:=by omega) (knd:=tupleKind (Ñ7 P w)) hu (keyS kall bI bD bC isb) ⟨o,es,ep,k2 D o hDC hDI e1,e2,e3,e4,isK,e5⟩ λh3 ⟨o3,es3,ep3,f1,f2,f3,f4,_,f6⟩ sb3=>?_
  refine⟨its.size + 1 - (i + 1),by omega,i + 1,h3,_,_,Û3 xs kss[i] b (.bool true),rfl,hlt,rfl,W.frame _ h2 _ ?_ λc hc o e=>sb3.extBut c o (λz=>?_) e,⟨o3,es3,ep3,f1,f2,f3,f4,f6⟩,hn2.sameBut sb3 (Â4 hDC),Ù r71 ∅,λks=>?_,λy hy=>?_,λc o z1 z2 z3 e=>sb3.extBut c o z3 (kall c o z1 z2 z3 e)⟩
  ·exact W.frame _ _ _ st1 λc hc o e=>sb2.extBut c o (λz=>by subst z;rcases à.mp hc with z | z;exact hCI z;exact hCa (by simpa using z)) e
  ·subst z;rcases à.mp hc with z | z
   ·exact hDI z
   ·exact hDa (by simpa using z)
  ·rw[d11,hks,List.take_succ,Ç7,hv'];exact or_congr Ù0 (ð (a:=ks) (b:=kss[i])).symm
  ·rcases r61 hy with ⟨u,hu',e6,e7⟩ | ⟨e6,e7⟩
   ·rw[← e6,← e7];exact had u hu'
   ·exact⟨i,by rw[e6];exact hv',by rw[e7];exact hb⟩
 ·have hin:i=its.size:=by omega
  subst hin;refine W.done _ _ _ st' λh1 tk1 k1=>?_;obtain⟨o,es,ep,e1,e2⟩:=ac';exact hR h1 tk1 m' xs (hn'.at' λo e=>k1 _ o (by simpa using hCI) e) ⟨o,es,ep,k1 _ _ (by simpa using hDI) e1,e2⟩ (λks=>by rw[hks,← hl,List.take_length]) had λb o z1 z2 z3 e=>k1 b o (by simpa using z2) (hkp b o z1 z2 z3 e)
end
theorem P20{α β:Type}{R:α->β->Prop}:∀ {l:List α}{r:List β}{i:Nat}{b:β},Ä5 R l r->r[i]?=some b->∃ a,l[i]?=some a/\R a b
 |_,_,_,_,.nil,e=>by simp at e|_,_,0,_,.cons h _,e=>by cases e;exact⟨_,rfl,h⟩
 |_,_,i + 1,_,.cons _ t,e=>P20 (i:=i) t e
section
variable {X:Cx}
def v52(K:Â)(ti:TE):TE:=λσ H Q=>ti σ H λv H1=>∃ a ys kss,v=.ref a/\SqL K H1 a ys/\Ä5 (λy ks=>∃ b,y=.ref b/\SqT K H1 b (ks.map V.int)) ys kss/\∀ d H2,a30 H1 H2->H1 d=none->r51 K H2 d kss->Q (.ref d) H2
theorem P11{x:Str}{p1 p2 px ps:Pos}{k2:Nat}{iter:Ò}{sc:Á2}{ti:TE}(hc:X.calm=true)(hu:X.A.units < Ä3)(S:F90 X sc [x] [])(hx:sc.names.lookup x=some .local)(hd:(x == ("__debug__":Str))=false)(hi:PE X iter ti)
  (hs:∀ v,É0 iter X.env v=pure v):PE X (.DictComp (.Name x p1) (.Constant (.bool true) k2 p2) [⟨.Name x px,iter,[],0⟩] sc ps) (v52 X.K ti):=by
 intro pins s σ H Q I h;obtain⟨cl,hclos,hcl,hcf⟩:=c31 (scope:=sc) (env:=X.env) λy hy hk=>I.ok.has y.1 (S.frees y hy hk);rw[arm_eval_DictComp];refine Ñ9 (use:=none) rfl hs hclos S.kind S.locs (thn (hi pins s σ H _ I h) λv s1 h1=>?_);obtain⟨x1,H1,I1,r1,a,ys,kss,rfl,hq,pk,q⟩:=h1;cases r1;obtain⟨its,rv,p,hz⟩:=I1.list hq;have hal:a < s1.heap.objs.size:=by
  obtain⟨_,o,e,_⟩:=p;exact å e
 refine Ñ6 p.isList (À2 (wpAny_newFunctionEnv S.nocell (by intro y hy;simp at hy) (λh2 hns sb=>?_) S.kind))
 dsimp only at hns sb ⊢;generalize e0:s1.heap.push { cls:=.type "list_iterator",data:=.fields #[.ref a,.int 0 0] }=g0 at hns sb ⊢;generalize e1:g0.push { cls:=.type "dict",dict:=none,data:=.dict #[] }=g1 at hns sb ⊢;have z0:g0.objs.size=s1.heap.objs.size + 1:=by rw[← e0,Ê9]
 have z1:g1.objs.size=s1.heap.objs.size + 2:=by rw[← e1,Ê9,z0]
 have n01:s1.heap.objs.size≠g0.objs.size:=by omega
 have n02:s1.heap.objs.size≠g1.objs.size:=by omega
 have n12:g0.objs.size≠g1.objs.size:=by omega
 have lw:∀ {b:È},b < s1.heap.objs.size->b≠s1.heap.objs.size/\b≠g0.objs.size/\b≠g1.objs.size:=λ{b} hb=>⟨ß hb,ß (Ý hb ∅),ß (Ý hb ∅)⟩
 have old0:∀ b o,g0.get? b=some o->b≠g1.objs.size->h2.get? b=some o:=λb o e n=>sb.extBut b o n (Ä _ (e1 ▸ Ä _ e));have old:∀ b o,s1.heap.get? b=some o->h2.get? b=some o:=λb o e=>old0 b o (e0 ▸ Ä _ e) (lw (å e)).2.2;have hit:h2.IsListIter s1.heap.objs.size a 0:=⟨_,old0 _ _ (e0 ▸ Ð _ rfl) n02,rfl,rfl⟩;have hD:P01 g0.objs.size [] h2:=⟨_,#[],_,sb.extBut _ _ n12 (Ä _ (e1 ▸ Ð _ rfl)),⟨rfl,rfl,rfl⟩,rfl,rfl,by simp⟩
 have loop:∀ s3:Æ,s3={ s1 with heap:=h2,toks:=s1.toks + ([]:List (Str × Ã)).length }->Ó8 (Û X.prog X.w) X.A (.compLoop (.DictComp (.Name x p1) (.Constant (.bool true) k2 p2) [⟨.Name x px,iter,[],0⟩] sc ps) 0 (.ref s1.heap.objs.size) (.ref g0.objs.size) (compEnvC sc cl g1.objs.size X.env))
   (compPost (Û X.prog X.w) X.A X.xe none (EP X pins σ Q) (.ref g0.objs.size) g1.objs.size) s3:=by
  rintro s3 rfl;refine r81 (kss:=kss) (its:=its.toArray) (a:=a) hu (I1.ok.hd hc) (lw hal).1 (by rw[Ö,← rv.length];exact pk.length.symm) (by rw[Ö,← rv.length];exact hz) (λi ks e=>?_) (lookup_relabel_local hx) S.kind hd n12 n01.symm (lw hal).2.1.symm n02.symm (lw hal).2.2.symm
   ⟨hit,p.isList.at λo e=>old _ o e⟩ hD hns λh' tk m' xs hn' kd kk ka kp=>?_
  ·obtain⟨y,hy,b,rfl,hb⟩:=P20 pk e;obtain⟨u,hu1,hu2⟩:=rv.get hy;cases hu2;obtain⟨o,i2,n2,f1,f2⟩:=key_is I1 hb;obtain⟨l1,l2,l3⟩:=lw (å f1);exact⟨b,by simpa using hu1,l1,l2,l3,o,i2,n2,old _ _ f1,f2⟩
  ·refine⟨m',hn',λh3 sb3=>?_⟩;obtain⟨o,es,ep,f1,f2⟩:=kd;have kd3:P01 g0.objs.size xs h3:=⟨o,es,ep,sb3.extBut _ _ n12 f1,f2⟩;have kp3:∀ b o,s1.heap.get? b=some o->h3.get? b=some o:=λb o e=>by
    obtain⟨l1,l2,l3⟩:=lw (å e);exact sb3.extBut b o l3 (kp b o l3 l1 l2 (old b o e))
   have hDn:H1 g0.objs.size=none:=I1.hok.fresh ∅
   have hst:∀ h1 h2:ò,P01 g0.objs.size xs h1->(∀ o,h1.get? g0.objs.size=some o->h2.get? g0.objs.size=some o)->P01 g0.objs.size xs h2:=λ_ _ ⟨o,es,ep,f1,f2⟩ k=>⟨o,es,ep,k _ f1,f2⟩;refine⟨.ref g0.objs.size,upd H1 g0.objs.size (.ext (P01 g0.objs.size xs)),I1.laid (t':=tk) kp3 ∅ ⟨kd3,⟨o,sb3.extBut _ _ n12 f1⟩,hst⟩,rfl,q _ _ (a30.new _ hDn) hDn ⟨xs,d10,?_,λy hy=>?_,kk⟩⟩
   ·exact beq_eq_false_iff_ne.mpr (lw I1.big).2.1.symm
   ·obtain⟨i,g1',g2⟩:=ka y hy;obtain⟨u,hu0,b,rfl,hb⟩:=P20 pk g1';obtain⟨u',hu1,hu2⟩:=rv.get hu0;cases hu2;have g2':its[i]?=some (.ref y.2.1):=by simpa using g2
    rw[hu1] at g2';cases g2';exact a30.sqT (a30.new _ hDn) hb
 exact codeAny_compStart_dict (loop _ rfl) (wpAny_pyIter_listiter hit (loop _ rfl))
end
end L2
namespace Q
open PySem L2
abbrev Z:=Option (Int × Bool)
inductive S where
 |d (x:D) | fr (xs:List D) | z
 |ks (l:List (List Int))
inductive R (α:Type) where
 |ok (a:α) (z:Z) | er (c:Nat) (z:Z)
abbrev M(α:Type):=Z->Option (R α)
def M.ret{α:Type}(a:α):M α:=λz=>some (.ok a z)
def M.no{α:Type}:M α:=λ_=>none
def M.of{α:Type}:Option α->M α
 |some a=>M.ret a|none=>M.no
def M.bind{α β:Type}(m:M α)(f:α->M β):M β:=λz=>match m z with
 |some (.ok a z1)=>f a z1|some (.er c z1)=>some (.er c z1)|none=>none
def M.calm{α:Type}(m:M α):M α:=λz=>match m z with
 |some (.ok a z1)=>some (.ok a z1)|_=>none
abbrev Env:=List (Option S)
def pl:List S->Option D
 |[.d x]=>some x|[.fr xs]=>some (.lst xs)|_=>none
def one:List S->Option S
 |[s]=>some s|_=>none
def plS:S->S
 |.fr xs=>.d (.lst xs)|s=>s
def plD:S->Option D
 |.d x=>some x|.fr xs=>some (.lst xs)|_=>none
def plA:List S->Option (List D)
 |[]=>some []|.d x::r=>(plA r).map (x::·)|.fr xs::r=>(plA r).map (.lst xs::·)|_::_=>none
inductive Bi where
 |add | sub | mul | fdiv | mod | pow | shl | band
inductive Cm where
 |eq | ne | lt | le | gt | ge | isnt | mem | nmem
inductive Bf where
 |len | sorted | tuple | list | sum | min | max | abs | all | any | int | sset | F92
inductive Ty where
 |int | bool | tuple | list | str | seq
inductive Pat where
 |v (i:Nat) | tup (ps:Pat) | nil | cons (p r:Pat)
inductive It where
 |seq | rng1 | rng2 | zip
 |enum
inductive Ex where
 |nil | cons (a r:Ex)
 |var (i:Nat) | con (x:D) | gint (g:Str) (i:Int)
 |tup (as:Ex) | lst (as:Ex)
 |bin (o:Bi) (a b:Ex) | cmp (o:Cm) (a b:Ex) | neg (a:Ex)
 |not (a:Ex) | and (a b:Ex) | or (a b:Ex) | orT (a b:Ex) | ite (c a b:Ex)
 |ch (o o':Cm) (a b c:Ex)
 |bf (f:Bf) (as:Ex) | isi (t:Ty) (a:Ex)
 |idx (a i:Ex) | sl (a lo hi:Ex)
 |call (f:Nat) (as:Ex)
 |comp (own:Nat) (capt:List Nat) (p:Pat) (it:It) (src cond el:Ex)
 |zget (i k:Nat) | lrng (b:Bool) (as:Ex)
 |dkeys (a:Ex) | memk (o:Bool) (a:Ex) (i:Nat)
abbrev most:Nat:=100000
def d21:Nat:=2 ^ 4000
mutual
noncomputable def eqD:D->D->Bool
 |.non,.non=>true|.bl a,.bl b=>a == b|.int a,.int b=>a == b|.str a,.str b=>a == b|.bl a,.int b=>(if a then 1 else 0) == b|.int a,.bl b=>a == (if b then 1 else 0)|.tup a,.tup b=>z41 a b|.lst a,.lst b=>z41 a b|.dct,.dct=>true|_,_=>false
noncomputable def z41:List D->List D->Bool
 |[],[]=>true|a::r,b::q=>eqD a b&&z41 r q|_,_=>false
end
mutual
noncomputable def ltD:D->D->Option Bool
 |.int a,.int b=>some (decide (a < b))|.tup a,.tup b=>u41 a b|_,_=>none
noncomputable def u41:List D->List D->Option Bool
 |[],[]=>some false|[],_::_=>some true|_::_,[]=>some false|a::r,b::q=>if eqD a b then u41 r q else ltD a b
end
mutual
noncomputable def A20:D->Bool
 |.dct=>false|.tup l=>g00 l|.lst l=>g00 l|.str x=>PyData.strOk x|_=>true
noncomputable def g00:List D->Bool
 |[]=>true|x::r=>A20 x&&g00 r
end
mutual
noncomputable def deep:D->Nat
 |.tup l=>h70 l + 1|.lst l=>h70 l + 1|_=>0
noncomputable def h70:List D->Nat
 |[]=>0|x::r=>Nat.max (deep x) (h70 r)
end
def okD(d:D):Bool:=A20 d&&decide (deep d<=40)
def p42(l:List D):Bool:=g00 l&&decide (h70 l<=39)
theorem f30{c:Prop}[Decidable c]{α:Type}{a:Option α}{b:α}(h:(if c then a else none)=some b):c/\a=some b:=by
 by_cases k:c
 ·rw[if_pos k] at h;exact⟨k,h⟩
 ·rw[if_neg k] at h;cases h
def eqO(a b:D):Option Bool:=if okD a&&okD b then some (eqD a b) else none
def eqE:D->D->Option Bool
 |.tup l,.tup []=>some l.isEmpty|_,_=>none
def eqQ(a b:D):Option Bool:=if okD a&&okD b then some (eqD a b) else eqE a b
def ltO(a b:D):Option Bool:=if okD a&&okD b then ltD a b else none
def memD(x:D)(l:List D):Bool:=l.any λy=>eqD y x
def r91(x:D)(l:List D):Option Bool:=if okD x&&p42 l then some (memD x l) else none
def A50:List D->Option (List Int)
 |[]=>some []|.int i::r=>(A50 r).map (i::·)|_=>none
def C00:Bi->D->D->Option S
 |.add,.int i,.int j=>some (.d (.int (i + j)))|.add,.tup a,.tup b=>if a.length + b.length<=most then some (.d (.tup (a++b))) else none|.add,.lst a,.lst b=>if a.length + b.length<=most then some (.fr (a++b)) else none|.sub,.int i,.int j=>some (.d (.int (i - j)))|.mul,.int i,.int j=>if i.natAbs < d21/\j.natAbs < d21 then some (.d (.int (i * j))) else none|.mul,.tup a,.int j=>if 0<=j/\j.toNat * a.length<=most/\j < 1000000 then some (.d (.tup (í j.toNat a).flatten)) else none|.mul,.lst a,.int j=>if 0<=j/\j.toNat * a.length<=most/\j < 1000000 then some (.fr (í j.toNat a).flatten) else none|.fdiv,.int i,.int j=>if 0 < j/\j.natAbs < d21 then some (.d (.int (i / j))) else none|.mod,.int i,.int j=>if 0 < j then some (.d (.int (i % j))) else none|.pow,.int i,.int j=>if 0<=j/\j<=1000/\i.natAbs < 2 ^ 64 then some (.d (.int (i ^ j.toNat))) else none|.shl,.int i,.int j=>if 0<=j/\j<=1000/\i.natAbs < 2 ^ 64 then some (.d (.int (i * 2 ^ j.toNat))) else none|.band,.int i,.int j=>some (.d (.int (Å6.bitAnd i j)))|_,_,_=>none
def z51:D->Bool
 |.non=>true|_=>false
def neO:D->D->Option Bool
 |.dct,.tup _=>some true|a,b=>(eqO a b).map (!·)
def E40:Cm->D->D->Option Bool
 |.eq,a,b=>eqQ a b|.ne,a,b=>neO a b|.lt,a,b=>ltO a b|.gt,.int a,.int b=>some (decide (b < a))|.le,.int a,.int b=>some (decide (a<=b))|.le,.tup a,.tup b=>(A50 a).bind λns=>(A50 b).map λms=>HT.leB ns ms|.ge,.int a,.int b=>some (decide (b<=a))|.isnt,.bl a,.bl b=>some (a != b)|.isnt,a,.non=>some (!z51 a)|.mem,a,.tup l=>r91 a l|.mem,a,.lst l=>r91 a l|.nmem,a,.tup l=>(r91 a l).map (!·)|.nmem,a,.lst l=>(r91 a l).map (!·)|_,_,_=>none
def G22:Ty->D->Bool
 |.int,.int _=>true|.int,.bl _=>true|.bool,.bl _=>true|.tuple,.tup _=>true|.list,.lst _=>true|.str,.str _=>true|.seq,.tup _=>true|.seq,.lst _=>true|_,_=>false
def asB:D->Option Bool
 |.bl b=>some b|_=>none
def v62:D->Option (List D)
 |.tup l=>some l|_=>none
def asI:D->Option Int
 |.int i=>some i|_=>none
def d31:D->Option (List D)
 |.tup l=>some l|.lst l=>some l|_=>none
mutual
noncomputable def flt:D->List Int
 |.int i=>[i]|.tup l=>v72 l|_=>[]
noncomputable def v72:List D->List Int
 |[]=>[]|x::r=>flt x++v72 r
end
mutual
noncomputable def eqT:D->D->Bool
 |.int i,.int j=>i == j|.tup a,.tup b=>L50 a b|_,_=>false
noncomputable def L50:List D->List D->Bool
 |[],[]=>true|x::r,y::q=>eqT x y&&L50 r q|_,_=>false
end
def d41:D->Nat
 |.int _=>0|.tup (.int _::_)=>1|.tup (.tup _::_)=>2|_=>3
def k30(x y:D):Bool:=d41 y == d41 x&&(ltD x y == some (MySort.f10 (flt x) (flt y))&&(eqT x y || !(flt x == flt y)))
def i30(l:List D):Bool:=l.all λx=>decide (d41 x < 3)&&(okD x&&l.all (k30 x))
def P21(k:D):List D->List D
 |[]=>[k]|y::r=>if MySort.f10 (flt y) (flt k) then y::P21 k r else k::y::r
def D90:List D->List D
 |[]=>[]|k::r=>P21 k (D90 r)
def b50(k m:Nat):D:=.tup ((TS.A40 k 0 m).map λ(i:Nat)=>.int i)
def i40(k:Nat):List D:=(Ø (2 ^ k)).map (b50 k)
def z61(k:Nat):List D:=(TS.sN k).map (b50 k)
def K52(l:List D):Option (List D):=((Ø 9).find? λk=>L50 l (i40 k)).map z61
def upD:List D->Bool
 |x::y::r=>!MySort.f10 (flt y) (flt x)&&upD (y::r)|_=>true
def v82(l:List D):Bool:=decide (l.length<=1000)&&(i30 l&&upD l)
def P31(l:List D):Option (List D):=if v82 l=true then some l else K52 l
def sortedS(x:D):Option S:=(d31 x).bind λl=>if l.length < 64/\i30 l=true then some (.fr (D90 l)) else(P31 l).map S.fr
def s01:List D->Option Int
 |[]=>some 0|.int i::r=>(s01 r).map (i + ·)|_=>none
def bfD:Bf->List D->Option S
 |.len,[x]=>(d31 x).map λl=>.d (.int l.length)|.tuple,[x]=>(d31 x).map λl=>.d (.tup l)|.list,[x]=>(d31 x).map λl=>.fr l|.all,[.lst l]=>(l.mapM asB).map λbs=>.d (.bl (bs.all id))|.any,[.lst l]=>(l.mapM asB).map λbs=>.d (.bl (bs.any id))|.sorted,[x]=>sortedS x|.sum,[x]=>((d31 x).bind s01).map λi=>.d (.int i)|.min,[.int i,.int j]=>some (.d (.int (if j < i then j else i)))|.max,[.int i,.int j]=>some (.d (.int (if j > i then j else i)))|.abs,[.int i]=>some (.d (.int (if i < 0 then -i else i)))|.int,[.bl b]=>some (.d (.int (if b then 1 else 0)))|.int,[.int i]=>some (.d (.int i))|_,_=>none
def T90:D->D->Option D
 |.tup l,.int i=>atI l i|.lst l,.int i=>atI l i|_,_=>none
def cutD(l:List D)(lo hi:Option Int):List D:=(l.drop (HT.sIx l.length 0 lo)).take (HT.sIx l.length l.length hi - HT.sIx l.length 0 lo)
def slD:D->Option Int->Option Int->Option S
 |.tup l,lo,hi=>some (.d (.tup (cutD l lo hi)))|.lst l,lo,hi=>some (.fr (cutD l lo hi))|_,_,_=>none
def z71:List S->Option (Option Int)
 |[]=>some none|[.d (.int i)]=>some (some i)|_=>none
def E00:List D->Nat->List D
 |[],_=>[]|x::r,i=>.tup [.int i,x]::E00 r (i + 1)
def A60:List D->List D->List D
 |x::r,y::q=>.tup [x,y]::A60 r q|_,_=>[]
def inR:Int->Bool
 |.ofNat n=>Õ0 n 100000|.negSucc n=>Õ0 n 99999
theorem G40:inR j=true↔-100000 < j/\j < 100000:=by
 cases j with
 |ofNat n=>show ble (n + 1) 100000=true↔_;rw[ble_eq];show _↔-100000 < (n:Int)/\(n:Int) < 100000;omega|negSucc n=>show ble (n + 1) 99999=true↔_;rw[ble_eq,Int.negSucc_eq];omega
def itD:It->List D->Option (List D)
 |.seq,[x]=>d31 x|.rng1,[.int j]=>if inR j=true then some ((Ø j.toNat).map λ(i:Nat)=>D.int i) else none|.rng2,[.int i,.int j]=>if inR i=true/\inR j=true then some ((Ø (j - i).toNat).map λ(k:Nat)=>D.int (i + k)) else none|.zip,[.tup a,.tup b]=>some (A60 a b)|.zip,[.lst a,.lst b]=>some (A60 a b)|.enum,[.tup a]=>some (E00 a 0)|.enum,[.lst a]=>some (E00 a 0)|_,_=>none
def lrS:Bool->List D->S
 |true,xs=>.d (.tup xs)|false,xs=>.fr xs
def lrN:Bool->Str
 |true=>"tuple"|false=>"list"
def lrD:List D->Option (List D)
 |[x]=>itD .rng1 [x]|l=>itD .rng2 l
mutual
noncomputable def g30:Pat->D->Env->Option Env
 |.v i=>λx ρ=>some (ρ.set i (some (.d x)))
 |.tup ps=>λx ρ=>match x with
  |.tup l=>bindL ps l ρ|_=>none
 |.nil=>λ_ _=>none|.cons _ _=>λ_ _=>none
noncomputable def bindL:Pat->List D->Env->Option Env
 |.nil=>λl ρ=>match l with
  |[]=>some ρ|_=>none
 |.cons p r=>λl ρ=>match l with
  |x::l=>(g30 p x ρ).bind λρ=>bindL r l ρ|_=>none
 |.v _=>λ_ _=>none|.tup _=>λ_ _=>none
end
def turns(f:D->M (Option D)):List D->M (List D)
 |[]=>M.ret []|x::r=>M.bind (f x) λo=>M.bind (turns f r) λl=>M.ret (match o with | some y=>y::l | none=>l)
def t60(fc fe:Env->M (List S))(p:Pat)(ρ0:Env)(x:D):M (Option D):=M.bind (M.of (g30 p x ρ0)) λρ'=>M.bind (fc ρ') λc=>match c with
 |[]=>M.bind (fe ρ') λy=>M.bind (M.of (pl y)) λy=>M.ret (some y)|[.d (.bl true)]=>M.bind (fe ρ') λy=>M.bind (M.of (pl y)) λy=>M.ret (some y)|[.d (.bl false)]=>M.ret none|_=>M.no
def z81(k:Nat):Option (Option S)->Z->Option (R (List S))
 |some (some .z),some p=>if k=0 then some (.ok [.d (.int p.1)] (some p)) else if k=1 then some (.ok [.d (.bl p.2)] (some p)) else none|_,_=>none
abbrev FT:=Bool->Nat->List S->M S
abbrev u10(F:FT):FT:=λ_=>F true
def p52:D->Option (List Int)
 |.tup l=>A50 l|_=>none
def z91:List D->Option (List (List Int))
 |[]=>some []|x::r=>(p52 x).bind λk=>(z91 r).map (k::·)
def f52:D->Option (List (List Int))
 |.lst l=>z91 l|_=>none
def K62:Option (Option S)->Option (List (List Int))
 |some (some (.ks l))=>some l|_=>none
def ev:FT->Ex->Env->M (List S)
 |F,.nil=>λ_=>M.ret []|F,.cons a r=>λρ=>M.bind (ev F a ρ) λx=>M.bind (M.of (one x)) λs=>M.bind (ev F r ρ) λy=>M.ret (s::y)
 |F,.var i=>λρ=>match ρ[i]? with
  |some (some s)=>M.ret [plS s]|_=>M.no
 |F,.con x=>λ_=>M.ret [.d x]|F,.gint _ i=>λ_=>M.ret [.d (.int i)]|F,.tup as=>λρ=>M.bind (ev F as ρ) λl=>M.bind (M.of (plA l)) λds=>if ds.length<=most then M.ret [.d (.tup ds)] else M.no|F,.lst as=>λρ=>M.bind (ev F as ρ) λl=>M.bind (M.of (plA l)) λds=>if ds.length<=most then M.ret [.fr ds] else M.no|F,.bin o a b=>λρ=>M.bind (ev F a ρ) λx=>M.bind (M.of (pl x)) λx=>M.bind (ev F b ρ) λy=>M.bind (M.of (pl y)) λy=>M.bind (M.of (C00 o x y)) λs=>M.ret [s]|F,.cmp o a b=>λρ=>M.bind (ev F a ρ) λx=>M.bind (M.of (pl x)) λx=>M.bind (ev F b ρ) λy=>M.bind (M.of (pl y)) λy=>M.bind (M.of (E40 o x y)) λb=>M.ret [.d (.bl b)]|F,.neg a=>λρ=>M.bind (ev F a ρ) λx=>M.bind (M.of ((pl x).bind asI)) λi=>M.ret [.d (.int (-i))]|F,.not a=>λρ=>M.bind (ev F a ρ) λx=>M.bind (M.of ((pl x).bind asB)) λb=>M.ret [.d (.bl !b)]|F,.and a b=>λρ=>M.bind (ev F a ρ) λx=>M.bind (M.of ((pl x).bind asB)) λc=>if c then M.bind (ev F b ρ) λy=>M.bind (M.of ((pl y).bind asB)) λc=>M.ret [.d (.bl c)] else M.ret [.d (.bl false)]|F,.or a b=>λρ=>M.bind (ev F a ρ) λx=>M.bind (M.of ((pl x).bind asB)) λc=>if c then M.ret [.d (.bl true)] else M.bind (ev F b ρ) λy=>M.bind (M.of ((pl y).bind asB)) λc=>M.ret [.d (.bl c)]|F,.orT a b=>λρ=>M.calm (M.bind (ev F a ρ) λx=>M.bind (M.of ((pl x).bind v62)) λl=>if l.isEmpty then M.bind (ev F b ρ) λy=>M.bind (M.of ((pl y).bind v62)) λl=>M.ret [.d (.tup l)] else M.ret [.d (.tup l)])|F,.ite c a b=>λρ=>M.bind (ev F c ρ) λx=>M.bind (M.of ((pl x).bind asB)) λc=>if c then ev F a ρ else ev F b ρ
 |F,.ch o o' a b c=>λρ=>M.bind (ev F a ρ) λx=>M.bind (M.of (pl x)) λx=>M.bind (ev F b ρ) λy=>M.bind (M.of (pl y)) λy=>M.bind (M.of (E40 o x y)) λk =>
   if k then M.bind (ev F c ρ) λw=>M.bind (M.of (pl w)) λw=>M.bind (M.of (E40 o' y w)) λk=>M.ret [.d (.bl k)] else M.ret [.d (.bl false)]
 |F,.bf f as=>λρ=>M.bind (ev F as ρ) λl=>M.bind (M.of (plA l)) λds=>M.bind (M.of (bfD f ds)) λs=>M.ret [s]|F,.isi t a=>λρ=>M.bind (ev F a ρ) λx=>M.bind (M.of (pl x)) λx=>M.ret [.d (.bl (G22 t x))]|F,.idx a i=>λρ=>M.bind (ev F a ρ) λx=>M.bind (M.of (pl x)) λx=>M.bind (ev F i ρ) λy=>M.bind (M.of (pl y)) λy=>M.bind (M.of (T90 x y)) λr=>M.ret [.d r]|F,.sl a lo hi=>λρ=>M.bind (ev F a ρ) λx=>M.bind (M.of (pl x)) λx=>M.bind (ev F lo ρ) λu=>M.bind (M.of (z71 u)) λu=>M.bind (ev F hi ρ) λv=>M.bind (M.of (z71 v)) λv=>M.bind (M.of (slD x u v)) λs=>M.ret [s]|F,.call f as=>λρ=>M.bind (ev F as ρ) λl=>M.bind (F false f (l.map plS)) λs=>M.ret [s]|F,.comp own capt p it src cond el=>λρ=>M.bind (ev F src ρ) λl=>M.bind (M.of ((plA l).bind (itD it))) λxs=>if xs.length<=most then M.bind (M.calm (turns (t60 (ev F cond) (ev F el) p (í own none++capt.map λi=>(ρ[i]?).getD none)) xs)) λys=>M.ret [.fr ys] else M.no|F,.zget i k=>λρ z=>z81 k ρ[i]? z|F,.lrng b as=>λρ=>M.bind (ev F as ρ) λl=>M.bind (M.of ((plA l).bind lrD)) λxs=>M.ret [lrS b xs]|F,.dkeys a=>λρ=>M.bind (ev F a ρ) λl=>M.bind (M.of ((pl l).bind f52)) λkss=>M.ret [.ks kss]|F,.memk o a i=>λρ=>M.bind (ev F a ρ) λl=>M.bind (M.of ((pl l).bind p52)) λk=>M.bind (M.of (K62 ρ[i]?)) λkss=>M.ret [.d (.bl (kss.contains k == o))]
def W30(ρ:Env):Env:=ρ.map λo=>match o with
 |some .z=>none|o=>o
inductive Sm where
 |nil | seq (s r:Sm)
 |set (p:Pat) (e:Ex) | ret (e:Ex) | iff (c:Ex) (t e:Sm)
 |fr (p:Pat) (it:It) (src:Ex) (b:Sm)
 |whl (c:Ex) (b:Sm)
 |rais (c:Nat) | exp (e:Ex)
 |app (i:Nat) (e:Ex) | aug (o:Bi) (i:Nat) (e:Ex)
 |newz (i:Nat) (f:Nat) (as:Ex) | zset (i:Nat) (e:Ex) | apop (i j:Nat) (e:Ex)
inductive O where
 |nx (ρ:Env) | rt (s:S)
mutual
noncomputable def bare:D->Bool
 |.lst _=>false|.tup l=>h20 l|.dct=>false|_=>true
noncomputable def h20:List D->Bool
 |[]=>true|x::r=>bare x&&h20 r
end
def K20:S->Bool
 |.d x=>bare x|.fr xs=>h20 xs|_=>true
def d51(ρ:Env):Env:=ρ.map λo=>o.map plS
def K30(b:Bool):Option S->Option S
 |some (.fr xs)=>some (if b then .fr xs else .d (.lst xs))|o=>o
theorem W40(b:Bool)(ρ:Env):ρ.map (K30 b)=if b then ρ else d51 ρ:=by
 have h:∀ o:Option S,K30 b o=if b then o else o.map plS:=λo=>by
  match o with
  |some (.fr xs)=>cases b <;> rfl
  |some (.d _)=>cases b <;> rfl
  |some .z=>cases b <;> rfl
  |some (.ks _)=>cases b <;> rfl
  |none=>cases b <;> rfl
 rw[show K30 b=λo=>if b then o else o.map plS from funext h];cases b with
 |true=>exact Ô5 ρ|false=>rfl
def k40(s:S)(ρ:Env):Env:=ρ.map (K30 (K20 s))
def G50:Pat->S->Env->Option Env
 |p,.d x,ρ=>g30 p x ρ|.v i,s,ρ=>if i < ρ.length then some (ρ.set i (some s)) else none|_,_,_=>none
def b31(f:D->Env->M O):List D->Env->M O
 |[],ρ=>M.ret (.nx ρ)
 |x::r,ρ=>M.bind (f x ρ) λo=>match o with
  |.nx ρ=>b31 f r ρ|.rt s=>M.ret (.rt s)
def W81(c:Env->M (List S))(f:Env->M O):Nat->Env->M O
 |0,_=>M.no
 |n + 1,ρ=>M.bind (c ρ) λx=>M.bind (M.of ((pl x).bind asB)) λk=>if k then M.bind (f ρ) λo=>match o with
  |.nx ρ=>W81 c f n ρ|.rt s=>M.ret (.rt s)
  else M.ret (.nx ρ)
def ownAt(ρ:Env)(i:Nat):Option (List D):=match ρ[i]? with
 |some (some (.fr xs))=>some xs|_=>none
def S32(xs:List D)(i:Int)(y:D):Option (List D):=(ixN xs.length i).map λj=>xs.set j y
def f62:D->Bool
 |.tup l=>h20 l|.lst l=>h20 l|_=>true
def W50(l:List S):Bool:=match plA l with
 |some ds=>ds.all f62|none=>false
def noS:S->Option S
 |.z=>none|.ks _=>none|s=>some s
def f72:(it:It)->(e:Ex)->Option {i:Nat // it=.seq/\e=.cons (.var i) .nil}
 |.seq,.cons (.var i) .nil=>some ⟨i,rfl,rfl⟩|_,_=>none
def s11:List S->Bool
 |[]=>false|.d (.lst _)::_=>true|_::r=>s11 r
def W60(it:It)(e:Ex)(l:List S)(ρ:Env):Env:=match f72 it e with
 |some i=>ρ.set i.1 ((ρ[i.1]?.getD none).map plS)
 |none=>match s11 l with
  |true=>d51 ρ|false=>ρ
def A01(it:It)(e:Ex)(l:List S)(ρ:Env):Env:=(W60 it e l ρ).map (K30 (W50 l))
abbrev p62:Nat:=20000
def A11(ρ:Env)(i j:Nat)(xs ys:List D)(k:Int):Option O :=
 if i≠j/\0<=k/\inR k=true/\xs.length < most then(ys[k.toNat]?).bind λy=>if bare y=true then some (.nx ((ρ.set j (some (.fr (ys.eraseIdx k.toNat)))).set i (some (.fr (xs++[y]))))) else none else none
def v92(F:FT)(i j:Nat)(e:Ex):Env->M O:=λρ=>M.bind (M.of (ownAt ρ i)) λxs=>M.bind (M.of (ownAt ρ j)) λys=>M.bind (ev F e ρ) λl=>M.bind (M.of ((pl l).bind asI)) λk=>M.bind (M.of (A11 ρ i j xs ys k)) λo=>M.ret o
def A21(tp:Bool)(ρ:Env)(i:Nat):List S->Option (R O)
 |[.fr [.int n,.bl b]]=>if tp then some (.ok (.nx ((W30 ρ).set i (some .z))) (some (n,b))) else none|_=>none
def A31(ρ:Env)(v:Int):Option (Option S)->Z->Option (R O)
 |some (some .z),some p=>some (.ok (.nx ρ) (some (v,p.2)))|_,_=>none
def ex(F:FT)(tp:Bool):Sm->Env->M O
 |.nil=>λρ=>M.ret (.nx ρ)
 |.seq s r=>λρ=>M.bind (ex F tp s ρ) λo=>match o with
  |.nx ρ=>ex F tp r ρ|.rt s=>M.ret (.rt s)
 |.set p e=>λρ=>M.bind (ev F e ρ) λl=>M.bind (M.of (one l)) λs=>M.bind (M.of (G50 p s (k40 s ρ))) λρ=>M.ret (.nx ρ)
 |.ret e=>λρ=>match e with
  |.var i=>(match ρ[i]? with
   |some (some s)=>M.bind (M.of (noS s)) λs=>M.ret (.rt s)
   |_=>M.no)
  |e=>M.bind (ev F e ρ) λl=>M.bind (M.of ((one l).bind noS)) λs=>M.ret (.rt s)
 |.iff c t e=>λρ=>M.bind (ev F c ρ) λx=>M.bind (M.of ((pl x).bind asB)) λc=>if c then ex F tp t ρ else ex F tp e ρ|.fr p it src b=>λρ=>M.bind (ev F src ρ) λl=>M.bind (M.of ((plA l).bind (itD it))) λxs=>b31 (λx ρ=>M.bind (M.of (g30 p x ρ)) λρ=>ex F tp b ρ) xs (A01 it src l ρ)|.whl c b=>λρ=>W81 (ev F c) (ex F tp b) p62 ρ|.rais c=>λ_ z=>some (.er c z)|.exp e=>λρ=>M.bind (ev F e ρ) λl=>M.bind (M.of (one l)) λ_=>M.ret (.nx ρ)|.app i e=>λρ=>M.bind (M.of (ownAt ρ i)) λxs=>M.bind (ev F e ρ) λl=>M.bind (M.of (pl l)) λx=>if bare x=true/\xs.length < most then M.ret (.nx (ρ.set i (some (.fr (xs++[x]))))) else M.no|.aug o i e=>λρ=>M.bind (M.of ((ρ[i]?.getD none).bind plD)) λy=>M.bind (ev F e ρ) λl=>M.bind (M.of ((pl l).bind asI)) λx=>M.bind (M.of ((asI y).bind λy=>C00 o (.int y) (.int x))) λs=>M.bind (M.of (G50 (.v i) s (k40 s ρ))) λρ=>M.ret (.nx ρ)|.newz i f as=>λρ=>M.bind (ev F (.call f as) ρ) λl=>λ_=>A21 tp ρ i l|.zset i e=>λρ=>M.bind (ev F e ρ) λl=>M.bind (M.of ((pl l).bind asI)) λv=>λz=>A31 ρ v ρ[i]? z|.apop i j e=>λρ=>v92 F i j e ρ
inductive Df where
 |code (ps ns:Nat) (b:Sm) | prim (f:List S->M S)
def P30:Z->Z->Z
 |none,_=>none|some _,z=>z
def start(ns:Nat)(l:List S):Env:=l.map some++í (ns - l.length) none
def run(F:FT):Df->List S->M S
 |.code ps ns b,l=>λz=>if l.length=ps/\ps<=ns then(match ex F z.isNone b (start ns (l.map plS)) z with
  |some (.ok (.nx _) z1)=>some (.ok (.d .non) (P30 z z1))|some (.ok (.rt s) z1)=>some (.ok s (P30 z z1))|some (.er c z1)=>some (.er c (P30 z z1))
  |none=>none) else none
 |.prim f,l=>f l
def a70(T:List Df):Nat->Nat->List S->M S
 |k + 3,f,l=>match T[f]? with
  |some d=>run (λb g m=>match b with | true=>a70 T k g m | false=>a70 T (k + 2) g m) d l
  |none=>M.no
 |_,_,_=>M.no
abbrev A41(T:List Df)(k:Nat):FT:=λb g m=>match b with | true=>a70 T (k - 2) g m | false=>a70 T k g m
theorem d61(T:List Df)(k f:Nat)(l:List S):a70 T (k + 3) f l=match T[f]? with
  |some d=>run (A41 T (k + 2)) d l|none=>M.no:=rfl
end Q
namespace Q
open PySem L2 PySem.Spec PyProof.Rows
def t70(K:Â)(H:Hp)(a:È)(xs:List V):Prop:=Rd H a (.lst xs)∨∃ (its:Array Ã) (n:Nat),K.lookup a=some { cls:=.type "list",data:=.seq its n }/\its.size<=sizeLine/\Vals xs its.toList
theorem t70.of{K:Â}{H:Hp}{a:È}{xs:List V}(h:H a=some (.lst xs)):t70 K H a xs:=.inl (.inl h)
theorem t70.sq{K:Â}{H:Hp}{a:È}{xs:List V}(h:t70 K H a xs):SqL K H a xs:=by
 rcases h with h | ⟨its,n,h1,h2,h3⟩
 ·exact .inl h
 ·exact .inr ⟨_,its,n,h1,rfl,rfl,rfl,h2,h3⟩
theorem t70.same{K:Â}{H H':Hp}{a:È}{xs:List V}(h:t70 K H a xs)(e:a30 H H'):t70 K H' a xs:=by
 rcases h with (h | ⟨o,h⟩) | h
 ·exact .inl (.inl (e _ _ h))
 ·exact .inl (.inr ⟨o,e _ _ h⟩)
 ·exact .inr h
theorem t70.mem(I:Inv X pins σ H s)(h:t70 X.K H a xs):xs.length<=sizeLine/\∃ (its:List Ã) (n:Nat),Vals xs its/\xs.length=its.length/\s.heap.get? a=some { cls:=.type "list",data:=.seq its.toArray n }:=by
 rcases h with (h | ⟨o,h⟩) | ⟨its,n,h1,h2,h3⟩
 ·exact I.J32 h
 ·obtain⟨e,z,its,n,r,e2⟩:=I.hok a _ h;exact⟨z,its,n,r,r.length,e2⟩
 ·refine⟨by rw[h3.length,Ê1];exact h2,its.toList,n,h3,h3.length,?_⟩
  have:=I.kIn a _ h1;rw[Î6];exact this
mutual
def Hd(K:Â)(H:Hp):D->V->Prop
 |.non,v=>v=.non|.bl b,v=>v=.bl b|.int i,v=>v=.int i|.str x,v=>v=.str x|.tup ds,v=>∃ a xs,v=.ref a/\SqT K H a xs/\HdA K H ds xs|.lst ds,v=>∃ a xs,v=.ref a/\t70 K H a xs/\HdA K H ds xs|.dct,v=>∃ a kvs,v=.ref a/\H a=some (.dK kvs)
def HdA(K:Â)(H:Hp):List D->List V->Prop
 |[],xs=>xs=[]|d::ds,xs=>∃ x r,xs=x::r/\Hd K H d x/\HdA K H ds r
end
section
variable {K:Â}{H H':Hp}
mutual
theorem Hd.same(e:a30 H H'):∀ {d:D}{v:V},Hd K H d v->Hd K H' d v
 |.non,_,h=>by unfold Hd at h ⊢;exact h|.bl _,_,h=>by unfold Hd at h ⊢;exact h|.int _,_,h=>by unfold Hd at h ⊢;exact h|.str _,_,h=>by unfold Hd at h ⊢;exact h
 |.tup ds,_,h=>by
  unfold Hd at h ⊢;obtain⟨a,xs,rfl,h1,h2⟩:=h;exact⟨a,xs,rfl,e.sqT h1,HdA.same e h2⟩
 |.lst ds,_,h=>by
  unfold Hd at h ⊢;obtain⟨a,xs,rfl,h1,h2⟩:=h;exact⟨a,xs,rfl,h1.same e,HdA.same e h2⟩
 |.dct,_,h=>by
  unfold Hd at h ⊢;obtain⟨a,kvs,rfl,h1⟩:=h;exact⟨a,kvs,rfl,e _ _ h1⟩
theorem HdA.same(e:a30 H H'):∀ {ds:List D}{xs:List V},HdA K H ds xs->HdA K H' ds xs
 |[],_,h=>by unfold HdA at h ⊢;exact h
 |d::ds,_,h=>by
  unfold HdA at h ⊢;obtain⟨x,r,rfl,h1,h2⟩:=h;exact⟨x,r,rfl,Hd.same e h1,HdA.same e h2⟩
end
mutual
theorem Hd.has:∀ {d:D}{v:V},Hd K H d v->Has K H d v
 |.non,_,h=>by unfold Hd at h;unfold Has;exact h|.bl _,_,h=>by unfold Hd at h;unfold Has;exact h|.int _,_,h=>by unfold Hd at h;unfold Has;exact h|.str _,_,h=>by unfold Hd at h;unfold Has;exact h
 |.tup ds,_,h=>by
  unfold Hd at h;unfold Has;obtain⟨a,xs,rfl,h1,h2⟩:=h;exact⟨a,xs,rfl,h1,HdA.has h2⟩
 |.lst ds,_,h=>by
  unfold Hd at h;unfold Has;obtain⟨a,xs,rfl,h1,h2⟩:=h;exact⟨a,xs,rfl,h1.sq,HdA.has h2⟩
 |.dct,_,h=>by unfold Hd at h;unfold Has;exact h
theorem HdA.has:∀ {ds:List D}{xs:List V},HdA K H ds xs->L40 K H ds xs
 |[],_,h=>by unfold HdA at h;unfold L40;exact h
 |d::ds,_,h=>by
  unfold HdA at h;unfold L40;obtain⟨x,r,rfl,h1,h2⟩:=h;exact⟨x,r,rfl,Hd.has h1,HdA.has h2⟩
end
theorem HdA.nil:HdA K H [] []:=by unfold HdA;rfl
theorem HdA.cons(h:Hd K H d x)(r:HdA K H ds xs):HdA K H (d::ds) (x::xs):=by unfold HdA;exact⟨x,xs,rfl,h,r⟩
theorem HdA.c50(h:HdA K H (d::ds) xs):∃ x r,xs=x::r/\Hd K H d x/\HdA K H ds r:=by unfold HdA at h;exact h
theorem HdA.g40(h:HdA K H [] xs):xs=[]:=by unfold HdA at h;exact h
theorem HdA.length:∀ {ds:List D}{xs:List V},HdA K H ds xs->xs.length=ds.length
 |[],_,h=>by rw[h.g40];rfl
 |d::ds,_,h=>by
  obtain⟨x,r,rfl,_,h2⟩:=h.c50;simp[h2.length]
theorem HdA.get:∀ {ds:List D}{xs:List V}{i:Nat}{d:D},HdA K H ds xs->ds[i]?=some d->∃ x,xs[i]?=some x/\Hd K H d x
 |[],_,_,_,_,e=>by simp at e
 |d::ds,_,i,d',h,e=>by
  obtain⟨y,r,rfl,h1,h2⟩:=h.c50;cases i with
  |zero=>simp at e;subst e;exact⟨y,rfl,h1⟩
  |succ i =>
   obtain⟨x',e1,e2⟩:=HdA.get (i:=i) h2 (by simpa using e)
   exact⟨x',by simpa using e1,e2⟩
theorem HdA.append:∀ {ds es:List D}{xs ys:List V},HdA K H ds xs->HdA K H es ys->HdA K H (ds++es) (xs++ys)
 |[],_,_,_,h,g=>by rw[h.g40];exact g
 |d::ds,_,_,_,h,g=>by
  obtain⟨x,r,rfl,h1,h2⟩:=h.c50;exact .cons h1 (HdA.append h2 g)
theorem HdA.take:∀ {ds:List D}{xs:List V} (n:Nat),HdA K H ds xs->HdA K H (ds.take n) (xs.take n)
 |ds,xs,0,_=>by simp;exact .nil|[],_,n + 1,h=>by rw[h.g40];simp;exact .nil
 |d::ds,_,n + 1,h=>by
  obtain⟨x,r,rfl,h1,h2⟩:=h.c50;exact .cons h1 (HdA.take n h2)
theorem HdA.drop:∀ {ds:List D}{xs:List V} (n:Nat),HdA K H ds xs->HdA K H (ds.drop n) (xs.drop n)
 |ds,xs,0,h=>by simpa using h|[],_,n + 1,h=>by rw[h.g40];simp;exact .nil
 |d::ds,_,n + 1,h=>by
  obtain⟨x,r,rfl,h1,h2⟩:=h.c50;exact HdA.drop n h2
theorem HdA.reverse:∀ {ds:List D}{xs:List V},HdA K H ds xs->HdA K H ds.reverse xs.reverse
 |[],_,h=>by rw[h.g40];simp;exact .nil
 |d::ds,_,h=>by
  obtain⟨x,r,rfl,h1,h2⟩:=h.c50;rw[Ò3,Ò3];exact(HdA.reverse h2).append (.cons h1 .nil)
theorem HdA.rep(h:HdA K H ds xs):∀ n:Nat,HdA K H (í n ds).flatten (í n xs).flatten
 |0=>by simp;exact .nil|n + 1=>by rw[Ç1,Ç1,Ë8,Ë8];exact h.append (h.rep n)
theorem HdA.set:∀ {ds:List D}{xs:List V}{d:D}{x:V} (i:Nat),HdA K H ds xs->Hd K H d x->HdA K H (ds.set i d) (xs.set i x)
 |[],_,_,_,_,h,_=>by rw[h.g40];simp;exact .nil
 |e::ds,_,d,x,i,h,g=>by
  obtain⟨y,r,rfl,h1,h2⟩:=h.c50;cases i with
  |zero=>exact .cons g h2|succ i=>exact .cons h1 (HdA.set i h2 g)
theorem HdA.ints:∀ ns:List Int,HdA K H (ns.map D.int) (ns.map V.int)
 |[]=>.nil|n::r=>.cons (by unfold Hd;rfl) (HdA.ints r)
theorem Hd.j60(h:Hd K H (.int i) v):v=.int i:=by unfold Hd at h;exact h
theorem Hd.bl_(h:Hd K H (.bl b) v):v=.bl b:=by unfold Hd at h;exact h
theorem Hd.G32(h:Hd K H .non v):v=.non:=by unfold Hd at h;exact h
theorem Hd.K72{x:Str}{v:V}(h:Hd K H (.str x) v):v=.str x:=by unfold Hd at h;exact h
theorem Hd.E10(h:Hd K H (.tup ds) v):∃ a xs,v=.ref a/\SqT K H a xs/\HdA K H ds xs:=by unfold Hd at h;exact h
theorem Hd.b41(h:Hd K H (.lst ds) v):∃ a xs,v=.ref a/\t70 K H a xs/\HdA K H ds xs:=by unfold Hd at h;exact h
theorem Hd.int:Hd K H (.int i) (.int i):=by unfold Hd;rfl
theorem Hd.bl:Hd K H (.bl b) (.bl b):=by unfold Hd;rfl
theorem Hd.non:Hd K H .non .non:=by unfold Hd;rfl
theorem Hd.str{x:Str}:Hd K H (.str x) (.str x):=by unfold Hd;rfl
theorem Hd.tup(h:SqT K H a xs)(r:HdA K H ds xs):Hd K H (.tup ds) (.ref a):=by unfold Hd;exact⟨a,xs,rfl,h,r⟩
theorem Hd.lst(h:H a=some (.lst xs))(r:HdA K H ds xs):Hd K H (.lst ds) (.ref a):=by unfold Hd;exact⟨a,xs,rfl,t70.of h,r⟩
end
def noT(H:Hp):Hp:=λb=>match H b with
 |some (.tbl _)=>none|o=>o
theorem W70(h:noT H b=some o):H b=some o/\∀ ps,o≠.tbl ps:=by
 unfold noT at h;split at h
 ·cases h
 ·rename_i n;exact⟨h,λps e=>n ps (by rw[h,e])⟩
theorem d71(h:H b=some o)(n:∀ ps,o≠.tbl ps):noT H b=some o:=by
 unfold noT;split
 ·rename_i ps e;rw[h] at e;cases e;exact absurd rfl (n ps)
 ·exact h
theorem E50(H:Hp):a30 (noT H) H:=λ_ _ h=>(W70 h).1
theorem j31(e:a30 H H'):a30 (noT H) (noT H'):=λb o h=>d71 (e b o (W70 h).1) (W70 h).2
def hz(zA:Option È)(H:Hp):Hp:=match zA with
 |some a=>hide a (noT H)|none=>noT H
class Tb where
 tb:List (Addr × Str)
variable [TB:Tb]
def zAt(zA:Option È)(z:Z)(H:Hp):Prop:=match zA,z with
 |some a,some (n,b)=>H a=some (.lst [.int n,.bl b])|none,none=>True|_,_=>False
structure f20(zA:Option Addr)(z:Z)(H:Hp):Prop where
 zat:zAt zA z H
 tab:∀ p∈TB.tb,Tab H p.1 p.2
theorem a10(zA:Option È)(H:Hp):a30 (hz zA H) H:=by
 cases zA with
 |none=>exact E50 H|some a=>exact a30.trans (g20 a _) (E50 H)
theorem m30(e:a30 H H'):a30 (hz zA H) (hz zA H'):=by
 cases zA with
 |none=>exact j31 e|some a=>exact G20 λb o _ h=>j31 e b o h
theorem e00(h:H b=some o)(n:zA≠some b)(ht:∀ ps,o≠.tbl ps:=by exact λ_ h=>nomatch h):hz zA H b=some o:=by
 cases zA with
 |none=>exact d71 h ht|some a=>exact O60 (d71 h ht) λe=>n (by rw[e])
theorem v60(h:hz zA H b=some o):H b=some o/\zA≠some b:=by
 cases zA with
 |none=>exact⟨E50 H b o h,λe=>nomatch e⟩
 |some a =>
  refine⟨E50 H b o (g20 a _ b o h),λe=>?_⟩;cases e;have:hide b (noT H) b=some o:=h;unfold hide at this;rw[if_pos rfl] at this;cases this
theorem x40(h:hz zA H b=some o):∀ ps,o≠.tbl ps:=by
 cases zA with
 |none=>exact(W70 h).2|some a=>exact(W70 (g20 a _ b o h)).2
structure Ext(zA:Option Addr)(H H':Hp):Prop where
 same:a30 (hz zA H) (hz zA H')
 tbl:∀ b ps,H b=some (.tbl ps)->∃ qs,H' b=some (.tbl qs)
instance {zA:Option È}{H H':Hp}:CoeFun (Ext zA H H') (λ_=>∀ b o,hz zA H b=some o->hz zA H' b=some o):=⟨λx=>x.same⟩
instance {zA:Option È}{H H':Hp}:CoeOut (Ext zA H H') (a30 (hz zA H) (hz zA H')):=⟨λx=>x.same⟩
theorem Ext.refl:Ext zA H H:=⟨a30.refl _,λb ps h=>⟨ps,h⟩⟩
theorem Ext.trans(a:Ext zA H H1)(b:Ext zA H1 H2):Ext zA H H2:=⟨a30.trans a.same b.same,λc ps h=>let ⟨qs,h1⟩:=a.tbl c ps h;b.tbl c qs h1⟩
theorem Ext.of(e:a30 H H'):Ext zA H H':=⟨m30 e,λb ps h=>⟨ps,e b _ h⟩⟩
theorem Ext.at(e:Ext zA H H')(h:H a=some o)(n:zA≠some a)(ht:∀ ps,o≠.tbl ps:=by exact λ_ h=>nomatch h):H' a=some o:=(v60 (e.same a o (e00 h n ht))).1
theorem Ext.free(e:Ext zA H H')(h:H' a=none)(n:zA≠some a):H a=none:=by
 cases q:H a with
 |none=>rfl
 |some o =>
  by_cases ht:∃ ps,o=.tbl ps
  ·obtain⟨ps,rfl⟩:=ht;obtain⟨qs,q'⟩:=e.tbl a ps q;rw[q'] at h;cases h
  ·rw[e.at q n λps z=>ht ⟨ps,z⟩] at h;cases h
theorem zAt.same(h:zAt zA z H)(e:a30 H H'):zAt zA z H':=by
 cases zA with
 |none=>cases z with
  |none=>trivial|some _=>exact h.elim
 |some a=>cases z with
  |none=>exact h.elim|some p=>exact e _ _ h
theorem f20.same(h:f20 zA z H)(e:a30 H H'):f20 zA z H':=⟨h.zat.same e,λp hp=>(h.tab p hp).same e⟩
theorem Tab.upd{H:Hp}{P a:È}{q:Str}{xs:List V}{o:HO}(t:Tab H P q)(h:H a=some (.lst xs)):Tab (upd H a o) P q:=by
 obtain⟨ps,e,tr,k⟩:=t;have ne:∀ {b:È}{u:HO},H b=some u->(∀ l,u≠.lst l)->b≠a:=λ{b u} e1 e2 z=>by
  subst z;rw[h] at e1;cases e1;exact e2 _ rfl
 refine⟨ps,by rw[a80 (ne e λ_ z=>nomatch z)];exact e,tr,λpos c hc=>?_⟩
 obtain⟨c',e1,e2⟩:=k pos c hc;exact⟨c',e1,by rw[a80 (ne e2 λ_ z=>nomatch z)];exact e2⟩
theorem f20.W91{K:Â}{zA:Option È}{z:Z}{H:Hp}(h:f20 zA z H){a:È}{xs:List V}(t:SqT K H a xs):SqT K (hz zA H) a xs:=by
 have h:=h.zat;rcases t with (t | ⟨o,t⟩) | t
 ·refine .inl (.inl (e00 t λe=>?_));subst e;cases z with
  |none=>exact h.elim
  |some p =>
   have h':H a=some (.lst [.int p.1,.bl p.2]):=h;rw[t] at h';cases h'
 ·refine .inl (.inr ⟨o,e00 t λe=>?_⟩);subst e;cases z with
  |none=>exact h.elim
  |some p =>
   have h':H a=some (.lst [.int p.1,.bl p.2]):=h;rw[t] at h';cases h'
 ·exact .inr t
theorem f20.j41(h:f20 zA z H)(n:H a=none):zA≠some a:=λe=>by
 have h:=h.zat;subst e;cases z with
 |none=>exact h.elim
 |some p =>
  have h':H a=some (.lst [.int p.1,.bl p.2]):=h;rw[n] at h';cases h'
def RvS(K:Â)(zA:Option È)(H0 H:Hp):S->V->Prop
 |.d x,v=>Hd K (hz zA H) x v|.fr xs,v=>∃ a ys,v=.ref a/\H0 a=none/\zA≠some a/\H a=some (.lst ys)/\HdA K (hide a (hz zA H)) xs ys|.z,v=>∃ a,zA=some a/\v=.ref a|.ks l,v=>∃ d,v=.ref d/\r51 K (hz zA H) d l
def RvP(K:Â)(zA:Option È)(H:Hp):S->V->Prop
 |.d x,v=>Hd K (hz zA H) x v|.fr xs,v=>Hd K (hz zA H) (.lst xs) v|.z,v=>∃ a,zA=some a/\v=.ref a|.ks l,v=>∃ d,v=.ref d/\r51 K (hz zA H) d l
section
variable {K:Â}{zA:Option È}{H0 H H':Hp}
theorem RvS.pl{s:S}{v:V}(h:RvS K zA H0 H s v):RvP K zA H s v:=by
 cases s with
 |d x=>exact h|z=>exact h|ks l=>exact h
 |fr xs =>
  obtain⟨a,ys,rfl,_,h2,h3,h4⟩:=h;exact Hd.lst (e00 h3 h2) (h4.same (g20 a _))
theorem RvP.plS{s:S}{v:V}(h:RvP K zA H s v):RvP K zA H (plS s) v:=by cases s <;> exact h
theorem RvP.mono{s:S}{v:V}(h:RvP K zA H s v)(e:Ext zA H H'):RvP K zA H' s v:=by
 cases s with
 |d x=>exact Hd.same e h|z=>exact h|ks l=>obtain⟨d,q,k⟩:=h;exact⟨d,q,k.same e.same⟩
 |fr xs=>exact Hd.same e h
theorem RvS.mono{s:S}{v:V}(h:RvS K zA H0 H s v)(e:Ext zA H H'):RvS K zA H0 H' s v:=by
 cases s with
 |d x=>exact Hd.same e h|z=>exact h|ks l=>obtain⟨d,q,k⟩:=h;exact⟨d,q,k.same e.same⟩
 |fr xs =>
  obtain⟨a,ys,rfl,h1,h2,h3,h4⟩:=h;exact⟨a,ys,rfl,h1,h2,e.at h3 h2,h4.same (G20 λb o _ q=>e b o q)⟩
theorem RvS.from{H1:Hp}{s:S}{v:V}(h:RvS K zA H1 H s v)(e:Ext zA H0 H1):RvS K zA H0 H s v:=by
 cases s with
 |d x=>exact h|z=>exact h|ks l=>exact h
 |fr xs =>
  obtain⟨a,ys,rfl,h1,h2,h3⟩:=h;exact⟨a,ys,rfl,e.free h1 h2,h2,h3⟩
theorem RvP.d_{s:S}{v:V}{x:D}(h:RvP K zA H s v)(e:plD s=some x):Hd K (hz zA H) x v:=by
 cases s with
 |d y=>cases e;exact h
 |fr xs=>cases e;exact h
 |_=>cases e
end
abbrev RvA(K:Â)(zA:Option È)(H:Hp):List S->List V->Prop:=Ä5 (RvP K zA H)
theorem RvA.mono{K:Â}{zA:Option È}{H H':Hp}{l:List S}{vs:List V}(h:RvA K zA H l vs)(e:Ext zA H H'):RvA K zA H' l vs:=Ä5.p32 h λ_ _ q=>q.mono e
theorem RvA.plS{K:Â}{zA:Option È}{H:Hp}:∀ {l:List S}{vs:List V},RvA K zA H l vs->RvA K zA H (l.map plS) vs
 |_,_,.nil=>.nil|_,_,.cons r t=>.cons r.plS (RvA.plS t)
theorem RvA.ds{K:Â}{zA:Option È}{H:Hp}:∀ {l:List S}{vs:List V}{ds:List D},RvA K zA H l vs->plA l=some ds->HdA K (hz zA H) ds vs
 |_,_,_,.nil,e=>by cases e;exact .nil
 |.d x::r,_,_,.cons h t,e=>by
  simp only[plA,Ò7] at e;obtain⟨l,e,rfl⟩:=e;exact .cons h (RvA.ds t e)
 |.fr x::r,_,_,.cons h t,e=>by
  simp only[plA,Ò7] at e;obtain⟨l,e,rfl⟩:=e;exact .cons h (RvA.ds t e)
 |.z::r,_,_,.cons h t,e=>by simp[plA] at e|.ks _::r,_,_,.cons h t,e=>by simp[plA] at e
theorem g50(h:pl l=some x):∃ s,l=[s]/\plD s=some x:=by
 unfold pl at h;split at h
 ·exact⟨_,rfl,h⟩
 ·exact⟨_,rfl,h⟩
 ·cases h
theorem M.bind_some{α β:Type}{m:M α}{f:α->M β}{z:Z}{r:R β}(h:M.bind m f z=some r):(∃ a z1,m z=some (.ok a z1)/\f a z1=some r)∨(∃ c z1,m z=some (.er c z1)/\r=.er c z1):=by
 unfold M.bind at h;split at h
 ·exact .inl ⟨_,_,by assumption,h⟩
 ·cases h;exact .inr ⟨_,_,by assumption,rfl⟩
 ·cases h
theorem M.a20{α β:Type}{o:Option α}{f:α->M β}{z:Z}{r:R β}(h:M.bind (M.of o) f z=some r):∃ a,o=some a/\f a z=some r:=by
 cases o with
 |none=>cases h
 |some a=>exact⟨a,rfl,h⟩
end Q
set_option exponentiation.threshold 5000
namespace Q
open PySem L2 PySem.Spec PyProof.Rows
variable [TB:Tb]
section
variable {K:Â}{zA:Option È}{z:Z}{H:Hp}
theorem P41(hp:H p=none):a30 (hz zA H) (hide p (hz zA (upd H p o))):=λb u e=>by
 obtain⟨e1,e2⟩:=v60 e;have hb:b≠p:=λq=>by subst q;rw[hp] at e1;cases e1
 exact O60 (e00 (by rw[a80 hb];exact e1) e2 (x40 e)) hb
theorem h50:RvS K zA H0 H (.d (.int i)) (.int i):=Hd.int (K:=K) (H:=hz zA H)
theorem i50:RvS K zA H0 H (.d (.bl b)) (.bl b):=Hd.bl (K:=K) (H:=hz zA H)
theorem K71(h:Hd K (hz zA H) x v):RvS K zA H0 H (.d x) v:=h
theorem u20(st:f20 zA z H)(h:HdA K (hz zA H) xs ys)(hp:H p=none):RvS K zA H (upd H p (.lst ys)) (.fr xs) (.ref p) :=
 ⟨p,ys,rfl,hp,st.j41 hp,d10,h.same (P41 hp)⟩
theorem tupQ(st:f20 zA z H)(h:HdA K (hz zA H) xs ys)(q:∀ v H',a30 H H'->RvS K zA H H' (.d (.tup xs)) v->Q v H'):O61 K H ys Q :=
 λp H' sm hq=>q _ _ sm (K71 (Hd.tup ((st.same sm).W91 hq) (h.same (m30 sm))))
end
def rD2(K:Â)(f:D->D->Option S):R2:=λx y H Q=>∃ zA z dx dy s,f20 zA z H/\Hd K (hz zA H) dx x/\Hd K (hz zA H) dy y/\f dx dy=some s/\∀ v H',a30 H H'->RvS K zA H H' s v->Q v H'
def rDn(K:Â)(f:List D->Option S):List V->Hp->VK->Prop:=λxs H Q=>∃ zA z ds s,f20 zA z H/\HdA K (hz zA H) ds xs/\f ds=some s/\∀ v H',a30 H H'->RvS K zA H H' s v->Q v H'
section
variable {X:Cx}
theorem bits_le(h:k.natAbs < d21):Ü6 k<=4000:=by
 unfold Ü6;split
 ·exact Æ6 _
 ·have hn:k.natAbs < 2 ^ 4000:=h;have:k.natAbs.log2 < 4000:=by
   rcases Nat.eq_zero_or_pos k.natAbs with h0 | hp
   ·rw[h0];decide
   ·exact(Nat.log2_lt (ne_of_gt hp)).mpr hn
  omega
theorem X01(hi:i.natAbs < d21)(hj:j.natAbs < d21):IntMulOk i j:=by
 have h1:=bits_le hi;have h2:=bits_le hj;unfold IntMulOk;intro h;rw[À] at h;have h3:=h.2;unfold Å6.Int.intTooBig at h3;simp only[decide_eq_true_eq] at h3;have:(8000:Nat) < bitsLine:=by decide
 omega
theorem A51(hj:j.natAbs < d21):Å6.divisionGoesByPylong i j=false:=by
 refine PyProof.noPylong_of_log2 ?_;rcases Nat.eq_zero_or_pos j.natAbs with h0 | hp
 ·rw[h0];decide
 ·have:j.natAbs.log2 < 4000:=(Nat.log2_lt (ne_of_gt hp)).mpr hj;omega
theorem g60(h:n<=most):n<=sizeLine:=Ù h (by rw[Â7];decide)
def K82(K:Â):R2:=λx y H Q=>∃ l b xs zs,x=.ref l/\y=.ref b/\t70 K H l xs/\t70 K H b zs/\xs.length + zs.length<=sizeLine/\∀ p,H p=none->Q (.ref p) (upd H p (.lst (xs++zs)))
def K92(K:Â):R2:=λx y H Q=>∃ l k xs,x=.ref l/\y=.int k/\t70 K H l xs/\-(2 ^ 63)<=k/\k < 2 ^ 63/\xs.length * k.toNat<=sizeLine/\∀ p,H p=none->Q (.ref p) (upd H p (.lst (í k.toNat xs).flatten))
theorem f82:OpR X (Ã2 .Add) (K82 X.K):=by
 intro pins s σ H x y v u Q I rx ry h;obtain⟨l,b,xs,zs,rfl,rfl,hH,hB,hz,q⟩:=h;cases rx;cases ry;obtain⟨z,its,n,r,hl,e⟩:=hH.mem I;obtain⟨z2,its2,n2,r2,hl2,e2⟩:=hB.mem I;refine PySem.P.add_list e e2 ?_ (by rw[Ö,Ö];omega)
 have ea:its.toArray++its2.toArray=(its++its2).toArray:=by simp
 rw[ea];exact⟨.ref _,_,I.R92 (t':=s.toks) (r.append r2) (by rw[ö];omega),rfl,q _ I.fresh⟩
theorem f92:OpR X (Ã2 .Mult) (K92 X.K):=by
 intro pins s σ H x y v u Q I rx ry h;obtain⟨l,k,xs,rfl,rfl,hH,h1,h2,hz,q⟩:=h;cases rx;obtain⟨t,rfl⟩:=ry;obtain⟨z,its,n,r,hl,e⟩:=hH.mem I;have hlen:its.toArray.size * k.toNat<=sizeLine:=by rw[Ö,← hl];exact hz
 have hcap:¬ its.toArray.size * k.toNat > (2 ^ 63 - 1) / 8:=by
  have:(sizeLine:Nat)<=(2 ^ 63 - 1) / 8:=by decide
  omega
 have hfit:¬ (!Å6.List.listFitsIndex k)=true:=by
  rw[fitsIndex_both h1 h2];exact Í
 have hlong:¬ Í1 (its.toArray.size * k.toNat)=true:=by
  rw[M31 hlen];exact Í
 have hnew:foldl (λx1 x2=>x1++x2) #[] (í (if its.toArray.isEmpty=true then 0 else k.toNat) its.toArray)=(í k.toNat its).flatten.toArray:=by
  have f0:∀ m:Nat,foldl (λx1 x2=>x1++x2) #[] (í m its.toArray)=(í m its).flatten.toArray:=λm=>by
   have:=foldl_rep its m [];rw[Ì3] at this;exact this
  rw[f0];cases its with
  |nil=>simp|cons a r'=>rw[if_neg (by simp)]
 refine wpAny_binaryOp_repeat_ref (T:="list") (U:="int") (-0) ⟨_,e,rfl⟩ (λs'=>Ù9 s' k t) noFill_list_mul F.fills_int_mul Ó6 repeat_list F.slot_int_index.lookup
  (È4 Ó6 (Ù9 s k t) F.entry_int_rmul (F.args_int_rmul_2 _ _) (int___rmul___int_list k t l its.toArray n)
   ⟨e,rfl,⟨_,e,rfl⟩,È4 F.slot_list_mul ⟨_,e,rfl⟩ F.entry_list_mul (F.args_list_mul_2 _ _) (AutoListH.list___mul___list_int_3 l its.toArray n k t hfit hcap hlong) ⟨e,?_⟩⟩)
 rw[hnew];exact⟨.ref _,_,I.R92 (t':=s.toks) (r.rep k.toNat) (by rw[len_rep,Ø9];exact hz),rfl,q _ I.fresh⟩
theorem g02:OpR X (Ã2 .Add) (rD2 X.K (C00 .add)):=by
 intro pins s σ H x y v u Q I rx ry h;obtain⟨zA,z,dx,dy,w,st,hx,hy,e,q⟩:=h;cases dx with
 |int i =>
  cases dy with
  |int j =>
   cases e;cases hx.j60;cases hy.j60;exact s72 pins s σ H _ _ v u Q I rx ry ⟨i,j,rfl,rfl,q _ _ (a30.refl H) h50⟩
  |_=>cases e
 |tup a =>
  cases dy with
  |tup b =>
   obtain⟨hl,e⟩:=f30 e;cases e;obtain⟨p,xs,rfl,h1,h2⟩:=hx.E10;obtain⟨p',ys,rfl,h3,h4⟩:=hy.E10;exact e72 pins s σ H _ _ v u Q I rx ry ⟨p,p',xs,ys,rfl,rfl,(a10 zA H).sqT h1,(a10 zA H).sqT h3,g60 (by rw[h2.length,h4.length];exact hl),tupQ st (h2.append h4) q⟩
  |_=>cases e
 |lst a =>
  cases dy with
  |lst b =>
   obtain⟨hl,e⟩:=f30 e;cases e;obtain⟨p,xs,rfl,h1,h2⟩:=hx.b41;obtain⟨p',ys,rfl,h3,h4⟩:=hy.b41;exact f82 pins s σ H _ _ v u Q I rx ry ⟨p,p',xs,ys,rfl,rfl,h1.same (a10 zA H),h3.same (a10 zA H),g60 (by rw[h2.length,h4.length];exact hl),λr hr=>q _ _ (a30.new _ hr) (u20 st (h2.append h4) hr)⟩
  |_=>cases e
 |_=>cases e
theorem g12:OpR X (Ã2 .Sub) (rD2 X.K (C00 .sub)):=by
 intro pins s σ H x y v u Q I rx ry h;obtain⟨zA,z,dx,dy,w,st,hx,hy,e,q⟩:=h;cases dx with
 |int i =>
  cases dy with
  |int j =>
   cases e;cases hx.j60;cases hy.j60;exact s82 pins s σ H _ _ v u Q I rx ry ⟨i,j,rfl,rfl,q _ _ (a30.refl H) h50⟩
  |_=>cases e
 |_=>cases e
theorem g22:OpR X (Ã2 .Mult) (rD2 X.K (C00 .mul)):=by
 intro pins s σ H x y v u Q I rx ry h;obtain⟨zA,z,dx,dy,w,st,hx,hy,e,q⟩:=h;cases dx with
 |int i =>
  cases dy with
  |int j =>
   obtain⟨hl,e⟩:=f30 e;cases e;cases hx.j60;cases hy.j60;obtain⟨t,rfl⟩:=rx;obtain⟨t',rfl⟩:=ry;exact mul_int ⟨.int (i * j),H,I.tok _,⟨_,rfl⟩,q _ _ (a30.refl H) h50⟩ (X01 hl.1 hl.2)
  |_=>cases e
 |tup a =>
  cases dy with
  |int j =>
   obtain⟨hl,e⟩:=f30 e;cases e;cases hy.j60;obtain⟨p,xs,rfl,h1,h2⟩:=hx.E10;exact e82 pins s σ H _ _ v u Q I rx ry ⟨p,j,xs,rfl,rfl,(a10 zA H).sqT h1,hl.1,hl.2.2,g60 (by rw[h2.length];exact hl.2.1),tupQ st (h2.rep _) q⟩
  |_=>cases e
 |lst a =>
  cases dy with
  |int j =>
   obtain⟨hl,e⟩:=f30 e;cases e;cases hy.j60;obtain⟨p,xs,rfl,h1,h2⟩:=hx.b41;exact f92 pins s σ H _ _ v u Q I rx ry ⟨p,j,xs,rfl,rfl,h1.same (a10 zA H),by omega,by omega,g60 (by rw[h2.length,Ø9];exact hl.2.1),λr hr=>q _ _ (a30.new _ hr) (u20 st (h2.rep _) hr)⟩
  |_=>cases e
 |_=>cases e
theorem P51:OpR X (Ã2 .FloorDiv) (rD2 X.K (C00 .fdiv)):=by
 intro pins s σ H x y v u Q I rx ry h;obtain⟨zA,z,dx,dy,w,st,hx,hy,e,q⟩:=h;cases dx with
 |int i =>
  cases dy with
  |int j =>
   obtain⟨hl,e⟩:=f30 e;cases e;cases hx.j60;cases hy.j60;obtain⟨t,rfl⟩:=rx;obtain⟨t',rfl⟩:=ry;refine floordiv_int ∅ ⟨.int (i / j),H,I.tok _,⟨s.toks,?_⟩,q _ _ (a30.refl H) h50⟩ (.inl (A51 hl.2))
   rw[Int.fdiv_eq_ediv_of_nonneg _ ∅]
  |_=>cases e
 |_=>cases e
theorem g32:OpR X (Ã2 .Mod) (rD2 X.K (C00 .mod)):=by
 intro pins s σ H x y v u Q I rx ry h;obtain⟨zA,z,dx,dy,w,st,hx,hy,e,q⟩:=h;cases dx with
 |int i =>
  cases dy with
  |int j =>
   obtain⟨hl,e⟩:=f30 e;cases e;cases hx.j60;cases hy.j60;exact s92 pins s σ H _ _ v u Q I rx ry ⟨i,j,rfl,rfl,hl,q _ _ (a30.refl H) h50⟩
  |_=>cases e
 |_=>cases e
theorem g42:OpR X (Ã2 .Pow) (rD2 X.K (C00 .pow)):=by
 intro pins s σ H x y v u Q I rx ry h;obtain⟨zA,z,dx,dy,w,st,hx,hy,e,q⟩:=h;cases dx with
 |int i =>
  cases dy with
  |int j =>
   obtain⟨hl,e⟩:=f30 e;cases e;cases hx.j60;cases hy.j60;exact t02 pins s σ H _ _ v u Q I rx ry ⟨i,j,rfl,rfl,⟨hl.1,by omega,hl.2.2⟩,q _ _ (a30.refl H) h50⟩
  |_=>cases e
 |_=>cases e
theorem g52:OpR X (Ã2 .LShift) (rD2 X.K (C00 .shl)):=by
 intro pins s σ H x y v u Q I rx ry h;obtain⟨zA,z,dx,dy,w,st,hx,hy,e,q⟩:=h;cases dx with
 |int i =>
  cases dy with
  |int j =>
   obtain⟨hl,e⟩:=f30 e;cases e;cases hx.j60;cases hy.j60;exact t12 pins s σ H _ _ v u Q I rx ry ⟨i,j,rfl,rfl,⟨hl.1,by omega,hl.2.2⟩,q _ _ (a30.refl H) h50⟩
  |_=>cases e
 |_=>cases e
theorem P61:OpR X (Ã2 .BitAnd) (rD2 X.K (C00 .band)):=by
 intro pins s σ H x y v u Q I rx ry h;obtain⟨zA,z,dx,dy,w,st,hx,hy,e,q⟩:=h;cases dx with
 |int i =>
  cases dy with
  |int j =>
   cases e;cases hx.j60;cases hy.j60;exact t22 pins s σ H _ _ v u Q I rx ry ⟨i,j,rfl,rfl,q _ _ (a30.refl H) h50⟩
  |_=>cases e
 |_=>cases e
def opB:Bi->Ð6
 |.add=>.Add | .sub=>.Sub | .mul=>.Mult | .fdiv=>.FloorDiv | .mod=>.Mod | .pow=>.Pow | .shl=>.LShift | .band=>.BitAnd
theorem opD(o:Bi):OpR X (Ã2 (opB o)) (rD2 X.K (C00 o)):=by
 cases o
 ·exact g02
 ·exact g12
 ·exact g22
 ·exact P51
 ·exact g32
 ·exact g42
 ·exact g52
 ·exact P61
mutual
noncomputable def toP:D->PyData
 |.non=>.none|.bl b=>.bool b|.int i=>.int i|.str x=>.str x|.tup l=>.tuple (U00 l)|.lst l=>.list (U00 l)|.dct=>.none
noncomputable def U00:List D->List PyData
 |[]=>[]|x::r=>toP x::U00 r
end
end
end Q
namespace Q
open PySem L2 PySem.Spec PyProof.Rows
variable [TB:Tb]
mutual
theorem W80:∀ a b:D,A20 a=true->A20 b=true->Ú9 (toP a) (toP b)=eqD a b
 |.non,b,_,h=>by cases b <;> first | rfl | (simp[A20] at h)
 |.bl _,b,_,h=>by cases b <;> first | rfl | (simp[A20] at h)
 |.int _,b,_,h=>by cases b <;> first | rfl | (simp[A20] at h)
 |.str _,b,_,h=>by cases b <;> first | rfl | (simp[A20] at h)
 |.tup l,b,ha,h=>by
  cases b with
  |tup q =>
   exact d81 l q (by simpa [A20] using ha) (by simpa [A20] using h)
  |dct=>simp[A20] at h|_=>rfl
 |.lst l,b,ha,h=>by
  cases b with
  |lst q =>
   exact d81 l q (by simpa [A20] using ha) (by simpa [A20] using h)
  |dct=>simp[A20] at h|_=>rfl
 |.dct,_,h,_=>by simp[A20] at h
theorem d81:∀ a b:List D,g00 a=true->g00 b=true->PyData.eqvAll (U00 a) (U00 b)=z41 a b
 |[],[],_,_=>rfl|[],_::_,_,_=>rfl|_::_,[],_,_=>rfl
 |x::r,y::q,ha,hb=>by
  simp only[g00,À] at ha hb;simp only[U00,PyData.eqvAll,z41];rw[W80 x y ha.1 hb.1,d81 r q ha.2 hb.2]
end
mutual
theorem C10:∀ a:D,A20 a=true->(toP a).canLay0=true
 |.non,_=>rfl|.bl _,_=>rfl|.int _,_=>rfl|.str _,h=>h|.tup l,h=>v70 l h|.lst l,h=>v70 l h|.dct,h=>by cases h
theorem v70:∀ a:List D,g00 a=true->PyData.canLayAll0 (U00 a)=true
 |[],_=>rfl
 |x::r,h=>by
  simp only[g00,À] at h;simp only[U00,PyData.canLayAll0,C10 x h.1,v70 r h.2,Bool.and_self]
end
mutual
theorem P40:∀ a:D,(toP a).depth=deep a
 |.non=>rfl|.bl _=>rfl|.int _=>rfl|.str _=>rfl|.tup l=>congrArg (· + 1) (P50 l)|.lst l=>congrArg (· + 1) (P50 l)|.dct=>rfl
theorem P50:∀ a:List D,Ñ5 (U00 a)=h70 a
 |[]=>rfl
 |x::r=>by
  simp only[U00,Ñ5,h70];rw[P40 x,P50 r]
end
def s21(h:ò)(u:Ã)(d:D):Prop:=A20 d=true/\∃ as,Reads h u (toP d) as
def e10(h:ò)(us:List Ã)(ds:List D):Prop:=g00 ds=true/\∃ as,ReadsAll h us (U00 ds) as
section
variable {X:Cx}{pins:List (È × Obj)}{σ:L2.St}{H:Hp}{s:Æ}
mutual
theorem k50(I:Inv X pins σ H s):∀ {d:D}{v:V}{u:Ã},Hd X.K H d v->RelV v u->A20 d=true->∃ as,Reads s.heap u (toP d) as
 |.non,_,_,h,r,_=>by cases h.G32;cases r;exact⟨_,.none⟩
 |.bl b,_,_,h,r,_=>by cases h.bl_;cases r;exact⟨_,.bool b⟩
 |.int i,_,_,h,r,_=>by cases h.j60;obtain⟨t,rfl⟩:=r;exact⟨_,.int i t⟩
 |.str x,_,_,h,r,_=>by cases h.K72;obtain⟨t,rfl⟩:=r;exact⟨_,.str x t⟩
 |.tup l,_,_,h,r,f=>by
  obtain⟨a,xs,rfl,h1,h2⟩:=h.E10;cases r;obtain⟨its,rv,⟨o,e1,e2,n,e3⟩,_⟩:=I.tuple h1;obtain⟨as,ra⟩:=G60 I h2 rv f;exact⟨_,.tuple e1 e2 e3 (by simpa using ra)⟩
 |.lst l,_,_,h,r,f=>by
  obtain⟨a,xs,rfl,h1,h2⟩:=h.b41;cases r;obtain⟨its,rv,⟨o,n,e1,e2,_,e3⟩,_⟩:=I.list h1.sq;obtain⟨as,ra⟩:=G60 I h2 rv f;exact⟨_,.list e1 e2 e3 (by simpa using ra)⟩
 |.dct,_,_,_,_,f=>by cases f
theorem G60(I:Inv X pins σ H s):∀ {ds:List D}{vs:List V}{us:List Ã},HdA X.K H ds vs->Vals vs us->g00 ds=true->∃ as,ReadsAll s.heap us (U00 ds) as
 |[],_,_,h,r,_=>by cases h.g40;cases r;exact⟨_,.nil⟩
 |d::ds,_,_,h,r,f=>by
  obtain⟨x,xs,rfl,h1,h2⟩:=h.c50;cases r with
  |cons r1 r2 =>
   simp only[g00,À] at f;obtain⟨_,a1⟩:=k50 I h1 r1 f.1;obtain⟨_,a2⟩:=G60 I h2 r2 f.2;exact⟨_,.cons a1 a2⟩
end
end
theorem q40(h:okD d=true):A20 d=true/\SeqAt.shaped (toP d)=true:=by
 unfold okD at h;rw[À,decide_eq_true_eq] at h;refine⟨h.1,?_⟩;unfold SeqAt.shaped;rw[C10 d h.1,P40,Ä0,decide_eq_true_eq];omega
section
variable {X:Cx}
theorem w02(h:eqE a b=some c):∃ l,a=.tup l/\b=.tup []/\c=l.isEmpty:=by
 unfold eqE at h;split at h
 ·cases h;exact⟨_,rfl,rfl,rfl⟩
 ·cases h
theorem w12(hu:X.A.units + 64 < Ä3):OpR X (û .Eq) (rD2 X.K λa b=>(eqQ a b).map λc=>.d (.bl c)):=by
 intro pins s σ H x y v u Q I rx ry h;obtain⟨zA,z,dx,dy,w,st,hx,hy,e,q⟩:=h;unfold eqQ at e;dsimp only at e;split at e
 ·rename_i ok;cases e;rw[À] at ok;obtain⟨f1,s1⟩:=q40 ok.1;obtain⟨f2,s2⟩:=q40 ok.2;obtain⟨as,r1⟩:=k50 I (hx.same (a10 zA H)) rx f1;obtain⟨bs,r2⟩:=k50 I (hy.same (a10 zA H)) ry f2;exact eq_dataH r1 r2 s1 s2 hu ⟨.bl _,H,I,rfl,by rw[W80 dx dy f1 f2];exact q _ _ (a30.refl H) i50⟩
 ·obtain⟨c,h1,h2⟩:=Ì.mp e;obtain⟨l,rfl,rfl,rfl⟩:=w02 h1;subst h2;obtain⟨a,xs,rfl,k1,k2⟩:=hx.E10;obtain⟨b,ys,rfl,k3,k4⟩:=hy.E10;cases k4.g40;cases rx;cases ry;obtain⟨its,rv,ht,_⟩:=I.tuple ((a10 zA H).sqT k1);obtain⟨iu,ru,hu2,_⟩:=I.tuple ((a10 zA H).sqT k3);cases ru;have e1:its.length=l.length:=by rw[← rv.length,k2.length]
  refine SeqAt.eq_tupleAt (e:=λ_=>true) ht hu2 ∅ (λj _ h2=>absurd h2 (Ð0 j)) ⟨.bl _,H,I,rfl,?_⟩
  have e2:((Ø (min its.toArray.size ([]:List Ã).toArray.size)).all (λ_=>true)&&its.toArray.size == ([]:List Ã).toArray.size)=l.isEmpty:=by
   simp only[Ö,Ã9,Nat.min_zero,List.range_zero,all_nil,Ä0,e1];cases l <;> rfl
  rw[e2];exact q _ _ (a30.refl H) i50
theorem w22(hu:X.A.units + 64 < Ä3):OpR X (û .NotEq) (rD2 X.K λa b=>(eqO a b).map λc=>.d (.bl !c)):=by
 intro pins s σ H x y v u Q I rx ry h;obtain⟨zA,z,dx,dy,w,st,hx,hy,e,q⟩:=h;unfold eqO at e;dsimp only at e;split at e
 ·rename_i ok;cases e;rw[À] at ok;obtain⟨f1,s1⟩:=q40 ok.1;obtain⟨f2,s2⟩:=q40 ok.2;obtain⟨as,r1⟩:=k50 I (hx.same (a10 zA H)) rx f1;obtain⟨bs,r2⟩:=k50 I (hy.same (a10 zA H)) ry f2;exact ne_dataH r1 r2 s1 s2 hu ⟨.bl _,H,I,rfl,by rw[W80 dx dy f1 f2];exact q _ _ (a30.refl H) i50⟩
 ·cases e
theorem g62(hu:X.A.units + 64 < Ä3):OpR X (û .NotEq) (rD2 X.K λa b=>(neO a b).map λc=>.d (.bl c)):=by
 intro pins s σ H x y v u Q I rx ry h;obtain⟨zA,z,dx,dy,w,st,hx,hy,e,q⟩:=h;unfold neO at e;dsimp only at e;split at e
 ·cases e;unfold Hd at hx;obtain⟨a,kvs,rfl,h1⟩:=hx;obtain⟨b,xs,rfl,h2,_⟩:=hy.E10;exact f22 hu pins s σ H _ _ v u Q I rx ry ⟨a,b,kvs,xs,rfl,rfl,(v60 h1).1,(a10 zA H).sqT h2,q _ _ (a30.refl H) i50⟩
 ·refine w22 hu pins s σ H _ _ v u Q I rx ry ⟨zA,z,dx,dy,w,st,hx,hy,?_,q⟩;rw[← e,Option.map_map];rfl
end
theorem P60(h:p42 l=true):g00 l=true/\h70 l<=39:=by
 unfold p42 at h;rw[À,decide_eq_true_eq] at h;exact h
theorem P70(h:okD d=true):deep d<=40:=by
 unfold okD at h;rw[À,decide_eq_true_eq] at h;exact h.2
theorem G70(x:D)(fx:A20 x=true):∀ l:List D,g00 l=true->((U00 l).any λy=>Ú9 y (toP x))=memD x l
 |[],_=>rfl
 |y::r,h=>by
  simp only[g00,À] at h;show(Ú9 (toP y) (toP x) || (U00 r).any λy=>Ú9 y (toP x))=(eqD y x || memD x r);rw[W80 y x h.1 fx,G70 x fx r h.2]
section
variable {X:Cx}
theorem P80(h:r91 x l=some b):okD x=true/\p42 l=true/\b=memD x l:=by
 unfold r91 at h;split at h
 ·rename_i ok;rw[À] at ok;cases h;exact⟨ok.1,ok.2,rfl⟩
 ·cases h
theorem room_in{A:ý}(hu:A.units + 64 < Ä3){l:List D}{x:D}(h:okD x=true):A.units + 1 + min (Ñ5 (U00 l)) (toP x).depth < cLine:=by
 have h1:=P70 h;have h2:min (Ñ5 (U00 l)) (toP x).depth<=(toP x).depth:=Nat.min_le_right _ _;have h3:=P40 x;omega
theorem g72(hu:X.A.units + 64 < Ä3):OpR X (û .In) (rD2 X.K λa b=>(E40 .mem a b).map λc=>.d (.bl c)):=by
 intro pins s σ H x y v u Q I rx ry h;obtain⟨zA,z,dx,dy,w,st,hx,hy,e,q⟩:=h;cases dy with
 |tup l =>
  obtain⟨b,e1,e2⟩:=Ì.mp e;subst e2;obtain⟨o1,o2,rfl⟩:=P80 e1;obtain⟨f2,_⟩:=P60 o2;obtain⟨f1,_⟩:=q40 o1;obtain⟨as,r1⟩:=k50 I (hx.same (a10 zA H)) rx f1;obtain⟨bs,r2⟩:=k50 I (hy.same (a10 zA H)) ry (by simpa [A20] using f2)
  exact SeqAt.in_tuple_reads r2 r1 (v70 l f2) (C10 dx f1) (room_in hu o1) ⟨.bl _,H,I,rfl,by rw[G70 dx f1 l f2];exact q _ _ (a30.refl H) i50⟩
 |lst l =>
  obtain⟨b,e1,e2⟩:=Ì.mp e;subst e2;obtain⟨o1,o2,rfl⟩:=P80 e1;obtain⟨f2,_⟩:=P60 o2;obtain⟨f1,_⟩:=q40 o1;obtain⟨as,r1⟩:=k50 I (hx.same (a10 zA H)) rx f1;obtain⟨bs,r2⟩:=k50 I (hy.same (a10 zA H)) ry (by simpa [A20] using f2)
  exact SeqAt.in_list_reads r2 r1 (v70 l f2) (C10 dx f1) (room_in hu o1) ⟨.bl _,H,I,rfl,by rw[G70 dx f1 l f2];exact q _ _ (a30.refl H) i50⟩
 |_=>cases e
theorem P71(hu:X.A.units + 64 < Ä3):OpR X (û .NotIn) (rD2 X.K λa b=>(E40 .nmem a b).map λc=>.d (.bl c)):=by
 intro pins s σ H x y v u Q I rx ry h;obtain⟨zA,z,dx,dy,w,st,hx,hy,e,q⟩:=h;cases dy with
 |tup l =>
  obtain⟨b,e1,e2⟩:=Ì.mp e;subst e2;obtain⟨b',e3,rfl⟩:=Ì.mp e1;obtain⟨o1,o2,rfl⟩:=P80 e3;obtain⟨f2,_⟩:=P60 o2;obtain⟨f1,_⟩:=q40 o1;obtain⟨as,r1⟩:=k50 I (hx.same (a10 zA H)) rx f1;obtain⟨bs,r2⟩:=k50 I (hy.same (a10 zA H)) ry (by simpa [A20] using f2)
  exact SeqAt.notIn_tuple_reads r2 r1 (v70 l f2) (C10 dx f1) (room_in hu o1) ⟨.bl _,H,I,rfl,by rw[G70 dx f1 l f2];exact q _ _ (a30.refl H) i50⟩
 |lst l =>
  obtain⟨b,e1,e2⟩:=Ì.mp e;subst e2;obtain⟨b',e3,rfl⟩:=Ì.mp e1;obtain⟨o1,o2,rfl⟩:=P80 e3;obtain⟨f2,_⟩:=P60 o2;obtain⟨f1,_⟩:=q40 o1;obtain⟨as,r1⟩:=k50 I (hx.same (a10 zA H)) rx f1;obtain⟨bs,r2⟩:=k50 I (hy.same (a10 zA H)) ry (by simpa [A20] using f2)
  exact SeqAt.notIn_list_reads r2 r1 (v70 l f2) (C10 dx f1) (room_in hu o1) ⟨.bl _,H,I,rfl,by rw[G70 dx f1 l f2];exact q _ _ (a30.refl H) i50⟩
 |_=>cases e
end
end Q
namespace Q
open PySem L2 PySem.Spec PyProof.Rows
variable [TB:Tb]
def L02(A:ý)(s:Æ)(v u:Ã)(b:Bool):Prop:=∀ (P:ç) (w:ø) (E:Ã->Æ->Prop) (Q:Ã->Æ->Prop),Q (.bool b) s->Ô (Û P w) A (richCompare .Lt v u) Q E s
section
open PySem.SeqAt
open PySem.AutoSeq1 (wpAny_loadPart')
open PySem.MeetsSeq PySem.MeetsSeq2 PySem.MeetsSeq3
inductive Lx (A:Around) (s:Shared):List Value->List Value->Bool->Prop
 |nn:Lx A s [] [] false
 |nc {u us}:Lx A s [] (u::us) true
 |cn {v vs}:Lx A s (v::vs) [] false
 |eq {v u vs us b}:EqAt A s v u true->Lx A s vs us b->Lx A s (v::vs) (u::us) b
 |ne {v u vs us b}:EqAt A s v u false->L02 A s v u b->Lx A s (v::vs) (u::us) b
theorem G80(l b:È)(items items2:Array Ã)(n n2:Nat)(dd dd2:Option È)(sl sl2:Array (Option Ã))(c:Bool) :
  Meets (Å6.«tuple.__lt__» ⟨[.ref l,.ref b],[]⟩)
   (λA R s=>s.heap.get? l=some { cls:=.type "tuple",dict:=dd,data:=.seq items n,slots:=sl }/\s.heap.get? b=some { cls:=.type "tuple",dict:=dd2,data:=.seq items2 n2,slots:=sl2 } /\
    Lx A.in1 s items.toList items2.toList c/\R (.ok (.ret (.bool c))) s) :=
 .of_wp λprog w A R s h=>by
  obtain⟨hp,g,d,tk,os⟩:=s;obtain⟨hl,hb,hx,h⟩:=h;have f2:=Û1
  wp_walk using Ä9 hl,Ä9 hb,wpAny_forIn_list _ (λrest b s'=>b.1=none/\s'=⟨hp,g,d,tk,os⟩/\∃ (vs ws:List Ã),rest=vs.zip ws /\
   vs.length + items2.size=ws.length + items.size/\Lx A.in1 ⟨hp,g,d,tk,os⟩ vs ws c) _
  case turn =>
   rintro ⟨y,x⟩ rest b s' ⟨hb',rfl,vs,ws,hz,hlen,hR⟩;cases hR with
   |nn=>rw[Ø5] at hz;cases hz
   |nc=>rw[Ø5] at hz;cases hz
   |cn=>rw[List.zip_nil_right] at hz;cases hz
   |eq he hr =>
    rw[Ê0] at hz;injection hz with hyx hrest;injection hyx with hy hx';subst hy hx';simp only[Õ] at hlen;refine Á (he prog w _ _ ?_)
    wp_walk
    exact⟨rfl,rfl,_,_,hrest,by omega,hr⟩
   |ne he hr =>
    rw[Ê0] at hz;injection hz with hyx hrest;injection hyx with hy hx';subst hy hx';refine Á (he prog w _ _ ?_);have hri:=λE Q q=>hr prog w E Q q
    wp_walk using hri
    exact⟨_,rfl,by simpa using h⟩
  case fin =>
   rintro ⟨b1,b2⟩ s' ⟨hb',rfl,vs,ws,hz,hlen,hR⟩;simp only at hb';subst hb';have hv:c=decide (items.size < items2.size):=by
    cases hR with
    |nn=>simp only[Ã9] at hlen;exact(decide_eq_false ∅).symm|nc=>simp only[Ã9,Õ] at hlen;exact(decide_eq_true ∅).symm|cn=>simp only[Ã9,Õ] at hlen;exact(decide_eq_false ∅).symm|eq he hr=>rw[Ê0] at hz;cases hz
    |ne he hr=>rw[Ê0] at hz;cases hz
   rw[hv] at h
   wp_walk
   exact⟨_,rfl,by simpa [tupleCompareSizes] using h⟩
  case h =>
   exact⟨rfl,rfl,items.toList,items2.toList,rfl,by simp;omega,hx⟩
end
theorem A61(hl:Ï1 s.heap l i1)(hb:Ï1 s.heap b i2)(hu:A.units < Ä3)(hx:Lx A.in1 s i1.toList i2.toList c):L02 A s (.ref l) (.ref b) c:=by
 intro P w E Q h;obtain⟨⟨cls,dd,data,sl⟩,ho,hc,n,hd⟩:=id hl;obtain⟨⟨cls2,dd2,data2,sl2⟩,ho2,hc2,n2,hd2⟩:=id hb;simp only at hc hd hc2 hd2;subst hc hd hc2 hd2;exact richCompare_meets_room (op:=.Lt) ⟨_,ho,rfl⟩ ⟨_,ho2,rfl⟩ Ñ4 Ü9 (Ü3 _ _) (G80 l b i1 i2 n n2 dd dd2 sl sl2 c)
  ⟨ho,ho2,hx,show È8 c≠Ò9/\Q (.bool c) s from⟨(λx=>nomatch x),h⟩⟩ hu
theorem w32(ha:s21 s.heap v a)(hb:s21 s.heap u b)(hu:A.units + deep a < Ä3):Õ6 A s v u (eqD a b):=by
 obtain⟨f1,as,r1⟩:=ha;obtain⟨f2,bs,r2⟩:=hb;rw[← W80 a b f1 f2];have h:=P40 a;have h2:min (toP a).depth (toP b).depth<=(toP a).depth:=Nat.min_le_left _ _;exact SeqAt.eqAt_reads (toP a) (toP b) A s v u as bs r1 r2 (C10 a f1) (C10 b f2) ∅
theorem e10.c50(x:e10 h us (d::ds)):∃ u r,us=u::r/\s21 h u d/\e10 h r ds:=by
 obtain⟨f,as,r⟩:=x;simp only[g00,À] at f;cases r with
 |cons r1 r2=>exact⟨_,_,rfl,⟨f.1,_,r1⟩,f.2,_,r2⟩
theorem e10.g40(x:e10 h us []):us=[]:=by
 obtain⟨_,as,r⟩:=x;cases r;rfl
theorem in1_units(A:ý):A.in1.units=A.units + 1:=rfl
theorem g82:∀ (n:Nat) {A:ý}{s:Æ},
  (∀ (a b:D) (v u:Ã) (c:Bool),deep a<=n->s21 s.heap v a->s21 s.heap u b->ltD a b=some c->A.units + n < Ä3->L02 A s v u c) /\
  (∀ (a b:List D) (vs us:List Ã) (c:Bool),h70 a < n->e10 s.heap vs a->e10 s.heap us b->u41 a b=some c->A.units + n < Ä3->Lx A.in1 s vs us c):=by
 intro n
 induction n with
 |zero =>
  intro A s;refine⟨λa b v u c hd ha hb e hu=>?_,λa b vs us c hd=>absurd hd (Ð0 _)⟩;cases a with
  |int i =>
   cases b with
   |int j =>
    cases e;obtain⟨_,_,r1⟩:=ha;obtain⟨_,_,r2⟩:=hb;cases r1;cases r2;exact λP w E Q h=>HT.i61 A s i _ j _ P w E Q h
   |_=>cases e
  |tup l=>simp[deep] at hd|_=>cases e
 |succ n ih =>
  have rows:∀ {A:ý}{s:Æ} (a b:List D) (vs us:List Ã) (c:Bool),h70 a < n + 1->e10 s.heap vs a->e10 s.heap us b->u41 a b=some c->A.units + (n + 1) < Ä3->Lx A.in1 s vs us c:=by
   intro A s a
   induction a with
   |nil =>
    intro b vs us c _ ha hb e hu;cases ha.g40;cases b with
    |nil=>cases hb.g40;cases e;exact .nn
    |cons y q=>obtain⟨u,r,rfl,_⟩:=hb.c50;cases e;exact .nc
   |cons x r ihr =>
    intro b vs us c hd ha hb e hu;obtain⟨v,vs',rfl,a1,a2⟩:=ha.c50;cases b with
    |nil=>cases hb.g40;cases e;exact .cn
    |cons y q =>
     obtain⟨u,us',rfl,b1,b2⟩:=hb.c50;simp only[h70] at hd;have d1:deep x<=n:=Nat.le_of_lt_succ (Î3 (Nat.le_max_left _ _) hd);have d2:h70 r < n + 1:=Î3 (Nat.le_max_right _ _) hd;have hu1:A.in1.units + n < cLine:=by rw[in1_units];omega
     have he:=w32 (A:=A.in1) a1 b1 ∅
     simp only[u41] at e;cases hq:eqD x y with
     |true =>
      rw[hq] at he e;exact .eq he (ihr q vs' us' c d2 a2 b2 (by simpa using e) hu)
     |false =>
      rw[hq] at he e;exact .ne he ((ih (A:=A.in1) (s:=s)).1 x y v u c d1 a1 b1 (by simpa using e) hu1)
  intro A s;refine⟨λa b v u c hd ha hb e hu=>?_,rows⟩;cases a with
  |int i =>
   cases b with
   |int j =>
    cases e;obtain⟨_,_,r1⟩:=ha;obtain⟨_,_,r2⟩:=hb;cases r1;cases r2;exact λP w E Q h=>HT.i61 A s i _ j _ P w E Q h
   |_=>cases e
  |tup l =>
   cases b with
   |tup q =>
    obtain⟨f1,as,r1⟩:=ha;obtain⟨f2,bs,r2⟩:=hb;simp only[deep] at hd;cases r1 with
    |tuple k1 k2 k3 k4 =>
     cases r2 with
     |tuple m1 m2 m3 m4 =>
      exact A61 ⟨_,k1,k2,_,k3⟩ ⟨_,m1,m2,_,m3⟩ ∅ (rows l q _ _ c ∅ ⟨by simpa [A20] using f1,_,k4⟩ ⟨by simpa [A20] using f2,_,m4⟩ e hu)
   |_=>cases e
  |_=>cases e
section
variable {X:Cx}
theorem w42(h:ltO a b=some c):okD a=true/\okD b=true/\ltD a b=some c:=by
 unfold ltO at h;split at h
 ·rename_i ok;rw[À] at ok;exact⟨ok.1,ok.2,h⟩
 ·cases h
theorem w52(hu:X.A.units + 64 < Ä3):OpR X (û .Lt) (rD2 X.K λa b=>(E40 .lt a b).map λc=>.d (.bl c)):=by
 intro pins s σ H x y v u Q I rx ry h;obtain⟨zA,z,dx,dy,w,st,hx,hy,e,q⟩:=h;obtain⟨b,e1,e2⟩:=Ì.mp e;subst e2;obtain⟨o1,o2,e3⟩:=w42 (show ltO dx dy=some b from e1);obtain⟨f1,_⟩:=q40 o1;obtain⟨f2,_⟩:=q40 o2;obtain⟨as,r1⟩:=k50 I (hx.same (a10 zA H)) rx f1;obtain⟨bs,r2⟩:=k50 I (hy.same (a10 zA H)) ry f2;exact(g82 40 (A:=X.A) (s:=s)).1 dx dy v u b (P70 o1) ⟨f1,as,r1⟩ ⟨f2,bs,r2⟩ e3 ∅ _ _ _ _ ⟨.bl b,H,I,rfl,q _ _ (a30.refl H) i50⟩
theorem G90{K:Â}{H:Hp}:∀ {l:List D}{ns:List Int}{vs:List V},A50 l=some ns->HdA K H l vs->vs=ns.map V.int/\l=ns.map D.int
 |[],_,_,e,h=>by cases e;rw[h.g40];exact⟨rfl,rfl⟩
 |.int i::r,_,_,e,h=>by
  obtain⟨ms,e1,rfl⟩:=Ì.mp e;obtain⟨x,xs,rfl,h1,h2⟩:=h.c50;cases h1.j60;obtain⟨rfl,rfl⟩:=G90 e1 h2;exact⟨rfl,rfl⟩
 |.non::_,_,_,e,_=>by cases e
 |.bl _::_,_,_,e,_=>by cases e
 |.str _::_,_,_,e,_=>by cases e
 |.tup _::_,_,_,e,_=>by cases e
 |.lst _::_,_,_,e,_=>by cases e
 |.dct::_,_,_,e,_=>by cases e
theorem w62(hu:X.A.units + 64 < Ä3):OpR X (û .LtE) (rD2 X.K λa b=>(E40 .le a b).map λc=>.d (.bl c)):=by
 intro pins s σ H x y v u Q I rx ry h;obtain⟨zA,z,dx,dy,w,st,hx,hy,e,q⟩:=h;cases dx with
 |int i =>
  cases dy with
  |int j =>
   cases e;cases hx.j60;cases hy.j60;exact I62 pins s σ H _ _ v u Q I rx ry ⟨i,j,rfl,rfl,q _ _ (a30.refl H) i50⟩
  |_=>cases e
 |tup a =>
  cases dy with
  |tup b =>
   obtain⟨c,e1,e2⟩:=Ì.mp e;subst e2;obtain⟨ns,n1,e1⟩:=Ï.mp (show(A50 a).bind _=_ from e1);obtain⟨ms,n2,rfl⟩:=Ì.mp e1;obtain⟨p,xs,rfl,h1,h2⟩:=hx.E10;obtain⟨p',ys,rfl,h3,h4⟩:=hy.E10;obtain⟨rfl,_⟩:=G90 n1 h2;obtain⟨rfl,_⟩:=G90 n2 h4;exact v02 ∅ pins s σ H _ _ v u Q I rx ry ⟨p,p',ns,ms,rfl,rfl,(a10 zA H).sqT h1,(a10 zA H).sqT h3,q _ _ (a30.refl H) i50⟩
  |_=>cases e
 |_=>cases e
theorem w72:OpR X (û .Gt) (rD2 X.K λa b=>(E40 .gt a b).map λc=>.d (.bl c)):=by
 intro pins s σ H x y v u Q I rx ry h;obtain⟨zA,z,dx,dy,w,st,hx,hy,e,q⟩:=h;cases dx with
 |int i =>
  cases dy with
  |int j =>
   cases e;cases hx.j60;cases hy.j60;exact I72 pins s σ H _ _ v u Q I rx ry ⟨i,j,rfl,rfl,q _ _ (a30.refl H) i50⟩
  |_=>cases e
 |_=>cases e
theorem w82:OpR X (û .GtE) (rD2 X.K λa b=>(E40 .ge a b).map λc=>.d (.bl c)):=by
 intro pins s σ H x y v u Q I rx ry h;obtain⟨zA,z,dx,dy,w,st,hx,hy,e,q⟩:=h;cases dx with
 |int i =>
  cases dy with
  |int j =>
   cases e;cases hx.j60;cases hy.j60;exact I82 pins s σ H _ _ v u Q I rx ry ⟨i,j,rfl,rfl,q _ _ (a30.refl H) i50⟩
  |_=>cases e
 |_=>cases e
theorem P81{K:Â}{H:Hp}{d:D}{v:V}(h:Hd K H d v):decide (v=.non)=z51 d:=by
 cases d with
 |non=>cases h.G32;rfl
 |bl b=>cases h.bl_;rfl
 |int i=>cases h.j60;rfl
 |str x=>cases h.K72;rfl
 |tup l=>obtain⟨a,xs,rfl,_⟩:=h.E10;rfl
 |lst l=>obtain⟨a,xs,rfl,_⟩:=h.b41;rfl
 |dct=>unfold Hd at h;obtain⟨a,kvs,rfl,_⟩:=h;rfl
theorem P91:OpR X (û .IsNot) (rD2 X.K λa b=>(E40 .isnt a b).map λc=>.d (.bl c)):=by
 intro pins s σ H x y v u Q I rx ry h;obtain⟨zA,z,dx,dy,w,st,hx,hy,e,q⟩:=h;cases dy with
 |bl b =>
  cases dx with
  |bl a =>
   cases e;cases hx.bl_;cases hy.bl_;exact y31 pins s σ H _ _ v u Q I rx ry ⟨a,b,rfl,rfl,q _ _ (a30.refl H) i50⟩
  |_=>cases e
 |non =>
  have e':some (S.d (.bl (!z51 dx)))=some w:=by cases dx <;> exact e
  cases e';cases hy.G32;refine c02 pins s σ H _ _ v u Q I rx ry ⟨rfl,?_⟩;rw[P81 hx];exact q _ _ (a30.refl H) i50
 |_=>cases dx <;> cases e
def opC:Cm->CmpOp
 |.eq=>.Eq | .ne=>.NotEq | .lt=>.Lt | .le=>.LtE | .gt=>.Gt | .ge=>.GtE | .isnt=>.IsNot | .mem=>.In | .nmem=>.NotIn
theorem p72(hu:X.A.units + 64 < Ä3)(o:Cm):OpR X (û (opC o)) (rD2 X.K λa b=>(E40 o a b).map λc=>.d (.bl c)):=by
 cases o
 ·exact w12 hu
 ·exact g62 hu
 ·exact w52 hu
 ·exact w62 hu
 ·exact w72
 ·exact w82
 ·exact P91
 ·exact g72 hu
 ·exact P71 hu
theorem HdA.one{K:Â}{H:Hp}{d:D}{xs:List V}(h:HdA K H [d] xs):∃ x,xs=[x]/\Hd K H d x:=by
 obtain⟨x,r,rfl,h1,h2⟩:=h.c50;rw[h2.g40];exact⟨x,rfl,h1⟩
theorem HdA.two{K:Â}{H:Hp}{d e:D}{xs:List V}(h:HdA K H [d,e] xs):∃ x y,xs=[x,y]/\Hd K H d x/\Hd K H e y:=by
 obtain⟨x,r,rfl,h1,h2⟩:=h.c50;obtain⟨y,rfl,h3⟩:=h2.one;exact⟨x,y,rfl,h1,h3⟩
theorem j51{K:Â}{zA:Option È}{H:Hp}{d:D}{l:List D}{v:V}(h:Hd K (hz zA H) d v)(e:d31 d=some l):∃ a xs,v=.ref a/\(SqL K H a xs∨SqT K H a xs)/\HdA K (hz zA H) l xs:=by
 cases d with
 |tup m =>
  cases e;obtain⟨a,xs,rfl,h1,h2⟩:=h.E10;exact⟨a,xs,rfl,.inr ((a10 zA H).sqT h1),h2⟩
 |lst m =>
  cases e;obtain⟨a,xs,rfl,h1,h2⟩:=h.b41;exact⟨a,xs,rfl,.inl (h1.same (a10 zA H)).sq,h2⟩
 |_=>cases e
theorem w92:h00 X (.builtin "len") (rDn X.K (bfD .len)):=by
 intro pins s σ H xs us Q I r h;obtain⟨zA,z,ds,w,st,hx,e,q⟩:=h
 match ds,e with
 |[d],e =>
  obtain⟨l,e1,rfl⟩:=Ì.mp (show(d31 d).map _=some w from e);obtain⟨x,rfl,h1⟩:=hx.one;obtain⟨a,ys,rfl,h2,h3⟩:=j51 h1 e1;exact V30 pins s σ H _ us Q I r ⟨a,ys,rfl,h2,by rw[h3.length];exact q _ _ (a30.refl H) h50⟩
theorem Q01:h00 X (.type "tuple") (rDn X.K (bfD .tuple)):=by
 intro pins s σ H xs us Q I r h;obtain⟨zA,z,ds,w,st,hx,e,q⟩:=h
 match ds,e with
 |[d],e =>
  obtain⟨l,e1,rfl⟩:=Ì.mp (show(d31 d).map _=some w from e);obtain⟨x,rfl,h1⟩:=hx.one;obtain⟨a,ys,rfl,h2,h3⟩:=j51 h1 e1;refine N50 pins s σ H _ us Q I r ⟨a,ys,rfl,?_⟩;rcases h2 with h2 | h2
  ·refine .inl ⟨h2,λp hp=>q _ _ (a30.new _ hp) (K71 (Hd.tup ((st.same (a30.new _ hp)).W91 (SqT.of d10)) (h3.same (m30 (a30.new _ hp)))))⟩
  ·exact .inr ⟨h2,q _ _ (a30.refl H) (K71 (Hd.tup (st.W91 h2) h3))⟩
theorem g92:h00 X (.type "list") (rDn X.K (bfD .list)):=by
 intro pins s σ H xs us Q I r h;obtain⟨zA,z,ds,w,st,hx,e,q⟩:=h
 match ds,e with
 |[d],e =>
  obtain⟨l,e1,rfl⟩:=Ì.mp (show(d31 d).map _=some w from e);obtain⟨x,rfl,h1⟩:=hx.one;obtain⟨a,ys,rfl,h2,h3⟩:=j51 h1 e1;exact V40 pins s σ H _ us Q I r ⟨a,ys,rfl,h2,λp hp=>q _ _ (a30.new _ hp) (u20 st h3 hp)⟩
theorem A71{K:Â}{H:Hp}:∀ {l:List D}{bs:List Bool}{vs:List V},l.mapM asB=some bs->HdA K H l vs->vs=bs.map V.bl
 |[],_,_,e,h=>by simp at e;subst e;rw[h.g40];rfl
 |x::r,_,_,e,h=>by
  simp only[Õ2,bind,Ï] at e;obtain⟨b,e1,bs,e2,e3⟩:=e;cases e3;obtain⟨y,ys,rfl,h1,h2⟩:=h.c50;cases x with
  |bl c=>cases e1;cases h1.bl_;rw[A71 e2 h2];rfl
  |_=>cases e1
theorem x02(hc:X.calm=true):h00 X (.builtin "all") (rDn X.K (bfD .all)):=by
 intro pins s σ H xs us Q I r h;obtain⟨zA,z,ds,w,st,hx,e,q⟩:=h
 match ds,e with
 |[.lst l],e =>
  obtain⟨bs,e1,rfl⟩:=Ì.mp (show(l.mapM asB).map _=some w from e);obtain⟨x,rfl,h1⟩:=hx.one;obtain⟨a,ys,rfl,h2,h3⟩:=h1.b41;rw[A71 e1 h3] at h2;exact N21 hc pins s σ H _ us Q I r ⟨a,bs,rfl,(h2.same (a10 zA H)).sq,q _ _ (a30.refl H) i50⟩
theorem j61:∀ {ns:List Int}{vs:List Ã},Vals (ns.map V.int) vs->∃ xs:List (Int × Tok),vs=xs.map (λp=>.int p.1 p.2)/\xs.map (·.1)=ns
 |[],_,h=>by cases h;exact⟨[],rfl,rfl⟩
 |n::r,_,h=>by
  cases h with
  |cons h1 h2 =>
   obtain⟨t,rfl⟩:=h1;obtain⟨xs,rfl,e⟩:=j61 h2;exact⟨(n,t)::xs,rfl,by rw[È1,e]⟩
theorem Q11(hc:X.calm=true):h00 X (.builtin "sum") (λxs H Q=>∃ (a:È) (ns:List Int),xs=[.ref a]/\(SqL X.K H a (ns.map V.int)∨SqT X.K H a (ns.map V.int))/\Q (.int ns.sum) H):=by
 intro pins s σ H xs us Q I r h;obtain⟨a,ns,rfl,hq,q⟩:=h;obtain⟨u,rfl,rx⟩:=vals1 r;cases rx;have fin:∀ {its:List Ã},Vals (ns.map V.int) its->∃ xs:Array (Int × Tok),its.toArray=intItems xs/\preSum (numAt xs) xs.size=ns.sum:=λ{its} rv=>by
  obtain⟨xs,rfl,e⟩:=j61 rv;exact⟨xs.toArray,by simp[intItems],by rw[preSum_eq,È7 (by simp)];simp[e]⟩
 rcases hq with hq | hq
 ·obtain⟨its,rv,p,_⟩:=I.list hq;obtain⟨xs,e1,e2⟩:=fin rv;exact sum_intListG (I.ok.hd hc) (e1 ▸ p.isList) λh' tk t' k=>⟨.int ns.sum,H,I.kept k,by rw[e2];exact⟨_,rfl⟩,q⟩
 ·obtain⟨its,rv,p,_⟩:=I.tuple hq;obtain⟨xs,e1,e2⟩:=fin rv;exact W.ktm_sumG (I.ok.hd hc) (e1 ▸ p) λh' tk t' k=>⟨.int ns.sum,H,I.kept k,by rw[e2];exact⟨_,rfl⟩,q⟩
theorem X11{K:Â}{H:Hp}:∀ {l:List D}{i:Int}{vs:List V},s01 l=some i->HdA K H l vs->∃ ns:List Int,vs=ns.map V.int/\ns.sum=i
 |[],_,_,e,h=>by cases e;rw[h.g40];exact⟨[],rfl,rfl⟩
 |.int j::r,_,_,e,h=>by
  obtain⟨k,e1,rfl⟩:=Ì.mp (show(s01 r).map _=_ from e);obtain⟨v,q,rfl,h1,h2⟩:=h.c50;obtain⟨ns,rfl,e2⟩:=X11 e1 h2;cases h1.j60;exact⟨j::ns,rfl,by rw[List.sum_cons,e2]⟩
theorem x12(hc:X.calm=true):h00 X (.builtin "sum") (rDn X.K (bfD .sum)):=by
 intro pins s σ H xs us Q I r h;obtain⟨zA,z,ds,w,st,hx,e,q⟩:=h
 match ds,e with
 |[d],e =>
  obtain⟨i,e1,rfl⟩:=Ì.mp (show((d31 d).bind s01).map _=some w from e);obtain⟨l,e2,e3⟩:=Ï.mp e1;obtain⟨x,rfl,h1⟩:=hx.one;obtain⟨a,ys,rfl,h2,h3⟩:=j51 h1 e2;obtain⟨ns,rfl,rfl⟩:=X11 e3 h3;exact Q11 hc pins s σ H _ us Q I r ⟨a,ns,rfl,h2,q _ _ (a30.refl H) (show Hd X.K (hz zA H) _ _ from Hd.int)⟩
theorem Q21(hc:X.calm=true):h00 X (.builtin "any") (λxs H Q=>∃ (a:È) (bs:List Bool),xs=[.ref a]/\SqL X.K H a (bs.map V.bl)/\Q (.bl (bs.any id)) H):=by
 intro pins s σ H xs us Q I r h;obtain⟨a,bs,rfl,hq,q⟩:=h;obtain⟨u,rfl,rx⟩:=vals1 r;cases rx;obtain⟨its,rv,pl,hz⟩:=I.list hq;have hlt:a < s.heap.objs.size:=by obtain⟨_,e,_⟩:=pl.isList;exact å e
 have hlen:its.length=bs.length:=by have:=rv.length;simpa using this.symm
 refine call_any_walk (Ñ6 pl.isList ⟨_,_,_,_,_,_,λi=>(bs[i]?).getD false,rfl,Walks.list (by exact I.ok.hd hc) s.heap.objs.size a (ß hlt) its.toArray,⟨⟨_,Ð _ rfl,rfl,rfl⟩,pl.isList.push _⟩,?_,?_⟩)
 ·intro i v s' Q' E' hP hQ;have hP':its[i]?=some v:=by simpa using hP
  have hi:i < bs.length:=by rw[← hlen];exact(Þ.mp hP').1
  obtain⟨v',hv',rv'⟩:=rv.get (i:=i) (x:=.bl bs[i]) (by simp[hi])
  rw[hP'] at hv';cases hv';cases (show v=È8 _ from rv');exact À8 (by simpa [hi] using hQ)
 ·intro h' tk kp;refine⟨.bl (bs.any id),H,I.kept λb o e=>kp b o (by simpa using ß (å e)) (Ä _ e),?_,q⟩
  show È8 _=È8 _;rw[Ö,hlen]
  congr 1
  rw[À0,any_eq_true,any_eq_true];constructor
  ·rintro ⟨i,h1,h2⟩;have hi:i < bs.length:=é.mp h1;exact⟨bs[i],À4 hi,by simpa [hi] using h2⟩
  ·rintro ⟨b,h1,h2⟩;obtain⟨i,hi,rfl⟩:=List.getElem_of_mem h1;exact⟨i,é.mpr hi,by simpa [hi] using h2⟩
theorem x22(hc:X.calm=true):h00 X (.builtin "any") (rDn X.K (bfD .any)):=by
 intro pins s σ H xs us Q I r h;obtain⟨zA,z,ds,w,st,hx,e,q⟩:=h
 match ds,e with
 |[.lst l],e =>
  obtain⟨bs,e1,rfl⟩:=Ì.mp (show(l.mapM asB).map _=some w from e);obtain⟨x,rfl,h1⟩:=hx.one;obtain⟨a,ys,rfl,h2,h3⟩:=h1.b41;rw[A71 e1 h3] at h2;exact Q21 hc pins s σ H _ us Q I r ⟨a,bs,rfl,(h2.same (a10 zA H)).sq,q _ _ (a30.refl H) i50⟩
theorem x32(hc:X.calm=true):h00 X (.builtin "min") (rDn X.K (bfD .min)):=by
 intro pins s σ H xs us Q I r h;obtain⟨zA,z,ds,w,st,hx,e,q⟩:=h
 match ds,e with
 |[.int i,.int j],e =>
  cases e;obtain⟨x,y,rfl,h1,h2⟩:=hx.two;cases h1.j60;cases h2.j60;exact v81 hc pins s σ H _ us Q I r ⟨i,j,rfl,q _ _ (a30.refl H) h50⟩
theorem x42(hc:X.calm=true):h00 X (.builtin "max") (rDn X.K (bfD .max)):=by
 intro pins s σ H xs us Q I r h;obtain⟨zA,z,ds,w,st,hx,e,q⟩:=h
 match ds,e with
 |[.int i,.int j],e =>
  cases e;obtain⟨x,y,rfl,h1,h2⟩:=hx.two;cases h1.j60;cases h2.j60;exact v71 hc pins s σ H _ us Q I r ⟨i,j,rfl,q _ _ (a30.refl H) h50⟩
theorem x52:h00 X (.builtin "abs") (rDn X.K (bfD .abs)):=by
 intro pins s σ H xs us Q I r h;obtain⟨zA,z,ds,w,st,hx,e,q⟩:=h
 match ds,e with
 |[.int i],e =>
  cases e;obtain⟨x,rfl,h1⟩:=hx.one;cases h1.j60;exact L81 pins s σ H _ us Q I r ⟨i,rfl,q _ _ (a30.refl H) h50⟩
theorem x62:h00 X (.type "int") (rDn X.K (bfD .int)):=by
 intro pins s σ H xs us Q I r h;obtain⟨zA,z,ds,w,st,hx,e,q⟩:=h
 match ds,e with
 |[.int i],e =>
  cases e;obtain⟨x,rfl,h1⟩:=hx.one;cases h1.j60;exact U50 pins s σ H _ us Q I r (.inl ⟨i,rfl,q _ _ (a30.refl H) h50⟩)
 |[.bl b],e =>
  cases e;obtain⟨x,rfl,h1⟩:=hx.one;cases h1.bl_;exact U50 pins s σ H _ us Q I r (.inr ⟨b,rfl,q _ _ (a30.refl H) h50⟩)
def tyN:Ty->String
 |.int=>"int" | .bool=>"bool" | .tuple=>"tuple" | .list=>"list" | .str=>"str" | .seq=>""
theorem h02(t:Ty)(d:D)(h:t≠.seq):isB d.ty (tyN t)=G22 t d:=by
 cases t <;> cases d <;> first | rfl | (exact absurd rfl h) | decide
theorem Q31(d:D):(isB d.ty "tuple" || isB d.ty "list")=G22 .seq d:=by cases d <;> rfl
theorem at_of{K:Â}{H:Hp}{l:List D}{xs:List V}{i:Int}{d:D}(h:HdA K H l xs)(e:atI l i=some d):∃ v,atI xs i=some v/\Hd K H d v:=by
 unfold atI at e ⊢;obtain⟨j,e1,e2⟩:=Ï.mp e;rw[h.length,e1];exact h.get e2
theorem ixD:IxR X (rD2 X.K λa b=>(T90 a b).map S.d):=by
 intro value slice pins s σ H x y v u Q I rx ry h hs;obtain⟨zA,z,dx,dy,w,st,hx,hy,e,q⟩:=h;obtain⟨r,e1,rfl⟩:=Ì.mp e;cases dx with
 |tup l =>
  cases dy with
  |int i =>
   cases hy.j60;obtain⟨a,xs,rfl,h1,h2⟩:=hx.E10;obtain⟨v',e2,h3⟩:=at_of h2 e1;exact u02 value slice pins s σ H _ _ v u Q I rx ry ⟨a,xs,i,v',rfl,rfl,(a10 zA H).sqT h1,e2,q _ _ (a30.refl H) (K71 h3)⟩ hs
  |_=>cases e1
 |lst l =>
  cases dy with
  |int i =>
   cases hy.j60;obtain⟨a,xs,rfl,h1,h2⟩:=hx.b41;obtain⟨v',e2,h3⟩:=at_of h2 e1;exact w61 value slice pins s σ H _ _ v u Q I rx ry ⟨a,xs,i,v',rfl,rfl,(h1.same (a10 zA H)).sq,e2,q _ _ (a30.refl H) (K71 h3)⟩ hs
  |_=>cases e1
 |_=>cases e1
theorem X21{K:Â}{H:Hp}{l:List D}{xs:List V}(h:HdA K H l xs)(lo hi:Option Int):HdA K H (cutD l lo hi) (M21 xs lo hi):=by
 unfold cutD M21;rw[h.length];exact(h.drop _).take _
def Y52(K:Â):V->Option Int->Option Int->Hp->VK->Prop:=λx lo hi H Q=>∃ zA z dx s,f20 zA z H/\Hd K (hz zA H) dx x/\slD dx lo hi=some s/\∀ v H',a30 H H'->RvS K zA H H' s v->Q v H'
theorem Y62:SlR X (Y52 X.K):=by
 intro pins s σ H x v vl vu lo hi sl Q I rx hs pl pu h;obtain⟨zA,z,dx,w,st,hx,e,q⟩:=h;cases dx with
 |tup l =>
  cases e;obtain⟨a,xs,rfl,h1,h2⟩:=hx.E10;exact e92 pins s σ H _ v vl vu lo hi sl Q I rx hs pl pu ⟨a,xs,rfl,(a10 zA H).sqT h1,tupQ st (X21 h2 lo hi) q⟩
 |lst l =>
  cases e;obtain⟨a,xs,rfl,h1,h2⟩:=hx.b41;exact c62 pins s σ H _ v vl vu lo hi sl Q I rx hs pl pu ⟨a,xs,rfl,(h1.same (a10 zA H)).sq,λp hp=>q _ _ (a30.new _ hp) (u20 st (X21 h2 lo hi) hp)⟩
 |_=>cases e
end
end Q
namespace Q
open PySem L2 PySem.Spec PyProof.Rows
open PySem.W (KatLex KatTups kat_nil kat_cons kat_go kat_yes kat_no kat_one kat_lt kat_kind kas_kind kat_lt_int)
theorem H00(k:D):∀ l,(P21 k l).Perm (k::l)
 |[]=>.refl _
 |y::r=>by
  unfold P21;split
  ·exact((H00 k r).cons y).trans (.swap _ _ _)
  ·exact .refl _
theorem n30:∀ l,(D90 l).Perm l
 |[]=>.refl _|k::r=>(H00 k _).trans ((n30 r).cons k)
theorem A81(k:D):∀ l,l.Pairwise (λx y=>MySort.f10 (flt y) (flt x)=false)->(P21 k l).Pairwise (λx y=>MySort.f10 (flt y) (flt x)=false)
 |[],_=>Å7 _ _
 |y::r,h=>by
  obtain⟨h1,h2⟩:=À9.mp h;unfold P21;split
  ·rename_i hy;refine À9.mpr ⟨λz hz=>?_,A81 k r h2⟩;rcases à.mp ((H00 k r).mem_iff.mp hz) with rfl | hz
   ·cases q:MySort.f10 (flt z) (flt y) with
    |false=>rfl|true=>have:=MySort.n10 _ _ _ hy q;rw[MySort.c20] at this;cases this
   ·exact h1 z hz
  ·rename_i hy;refine À9.mpr ⟨λz hz=>?_,h⟩;rcases à.mp hz with rfl | hz
   ·simpa using hy
   ·cases q:MySort.f10 (flt z) (flt k) with
    |false=>rfl
    |true =>
     rcases MySort.i91 _ (flt y) _ q with q | q
     ·rw[h1 z hz] at q;cases q
     ·exact absurd q hy
theorem P90:∀ l,(D90 l).Pairwise (λx y=>MySort.f10 (flt y) (flt x)=false)
 |[]=>.nil|k::r=>A81 k _ (P90 r)
mutual
theorem X31:∀ x y:D,eqT x y=true->x=y
 |.int i,y,h=>by
  cases y with
  |int j=>rw[eq_of_beq (show(i == j)=true from h)]|_=>cases h
 |.tup a,y,h=>by
  cases y with
  |tup b=>rw[d91 a b h]|_=>cases h
 |.non,y,h=>by cases y <;> cases h
 |.bl _,y,h=>by cases y <;> cases h
 |.str _,y,h=>by cases y <;> cases h
 |.lst _,y,h=>by cases y <;> cases h
 |.dct,y,h=>by cases y <;> cases h
theorem d91:∀ x y:List D,L50 x y=true->x=y
 |[],[],_=>rfl|[],_::_,h=>by cases h
 |_::_,[],h=>by cases h
 |x::r,y::q,h=>by
  have h:(eqT x y&&L50 r q)=true:=h;rw[À] at h;rw[X31 x y h.1,d91 r q h.2]
end
theorem j71(hp:l'.Perm l)(hs:l'.Pairwise λx y=>MySort.f10 (flt y) (flt x)=false)(inj:∀ x∈l,∀ y∈l,flt x=flt y->x=y):D90 l=l' :=
 Í6 (le:=λx y=>MySort.f10 (flt y) (flt x)=false) (λa b ha hb p q=>inj a ((n30 l).mem_iff.mp ha) b (hp.mem_iff.mp hb) (MySort.n20 _ _ q p)) (P90 l) hs ((n30 l).trans hp.symm)
variable [TB:Tb]
theorem h32(ok:∀ x∈l,∀ y∈l,flt x=flt y->x=y)(h:MySort.sortedBy (l.map flt) p):(p.map λi=>l.getD i .non)=D90 l:=by
 have h1:=h.1.map λi=>l.getD i .non;rw[Å,MySort.range_getD] at h1;have e:((p.map λi=>l.getD i .non).map flt)=p.map λi=>(l.map flt).getD i []:=by
  rw[Ü];refine Á9 λi hi=>?_;have:i < l.length:=by have:=h.1.mem_iff.mp hi;simpa using this
  simp[this]
 have h2:(p.map λi=>l.getD i .non).Pairwise λx y=>MySort.f10 (flt y) (flt x)=false:=by
  have:=h.2;rw[← e,Í7] at this;exact this
 refine Í6 (le:=λx y=>MySort.f10 (flt y) (flt x)=false) (λa b ha hb p q=>?_) h2 (P90 l) (h1.trans (n30 l).symm);exact ok a (h1.mem_iff.mp ha) b ((n30 l).mem_iff.mp hb) (MySort.n20 _ _ q p)
mutual
theorem Q41(kp:MySort.x91 h h'):∀ (d:D) {u:Ã}{as:List È},eqT d d=true->Reads h u (toP d) as->Reads h' u (toP d) as
 |.int i,_,_,_,r=>by cases r;exact .int _ _
 |.tup l,_,_,e,r=>by
  cases r with
  |tuple k1 k2 k3 k4=>exact .tuple (kp _ _ k1 k2) k2 k3 (q50 kp l e k4)
 |.non,_,_,e,_=>by cases e
 |.bl _,_,_,e,_=>by cases e
 |.str _,_,_,e,_=>by cases e
 |.lst _,_,_,e,_=>by cases e
 |.dct,_,_,e,_=>by cases e
theorem q50(kp:MySort.x91 h h'):∀ (l:List D) {us:List Ã}{as:List È},L50 l l=true->ReadsAll h us (U00 l) as->ReadsAll h' us (U00 l) as
 |[],_,_,_,r=>by cases r;exact .nil
 |x::q,_,_,e,r=>by
  have e:(eqT x x&&L50 q q)=true:=e;rw[À] at e;cases r with
  |cons r1 r2=>exact .cons (Q41 kp x e.1 r1) (q50 kp q e.2 r2)
end
theorem e10.get:∀ {us:List Ã}{l:List D}{i:Nat}{d:D},e10 h us l->l[i]?=some d->s21 h (us.getD i è) d
 |_,[],i,d,_,e=>by cases e
 |us,x::r,i,d,hd,e=>by
  obtain⟨u,q,rfl,h1,h2⟩:=hd.c50;cases i with
  |zero=>cases e;simpa using h1
  |succ i=>simpa using e10.get h2 (by simpa using e)
theorem e10.len:∀ {us:List Ã}{l:List D},e10 h us l->us.length=l.length
 |_,[],hd=>by rw[hd.g40];rfl
 |us,x::r,hd=>by
  obtain⟨u,q,rfl,h1,h2⟩:=hd.c50;simp[e10.len h2]
def X41(l:List D):Prop:=∀ x r,l=x::r->∃ i,x=.int i
theorem S42(hu:A.units + 40 < Ä3):∀ (a c:List D) {vs us:List Ã}{r:Bool} (i:Nat),e10 s.heap vs a->e10 s.heap us c->u41 a c=some r->h70 a<=39 ->
  ((b&&i == 0)=true->X41 a/\X41 c)->fin=decide (vs.length < us.length)->Q r s->KatLex P w A b fin Q (vs.zip us) i s
 |[],[],_,_,r,i,ha,hc,e,_,_,hf,q=>by
  cases ha.g40;cases hc.g40;cases e;subst hf;exact kat_nil q
 |[],y::t,_,_,r,i,ha,hc,e,_,_,hf,q=>by
  cases ha.g40;obtain⟨u,us,rfl,_,_⟩:=hc.c50;cases e;subst hf;exact kat_nil q
 |x::l,[],_,_,r,i,ha,hc,e,_,_,hf,q=>by
  cases hc.g40;obtain⟨v,vs,rfl,_,_⟩:=ha.c50;cases e;subst hf;exact kat_nil q
 |x::l,y::t,_,_,r,i,ha,hc,e,hd,hi,hf,q=>by
  obtain⟨v,vs,rfl,a1,a2⟩:=ha.c50;obtain⟨u,us,rfl,c1,c2⟩:=hc.c50;have d1:deep x<=39:=Ù (Nat.le_max_left _ _) hd;have d2:h70 l<=39:=Ù (Nat.le_max_right _ _) hd;have e:(if eqD x y=true then u41 l t else ltD x y)=some r:=e;refine kat_cons (w32 (A:=A) a1 c1 ∅ P w _ _ ?_)
  refine kat_go (λz=>?_) λz=>?_
  ·rw[if_pos z] at e;refine kat_yes (S42 hu l t (i + 1) a2 c2 e d2 (λk=>?_) (by rw[hf];simp) q)
   simp at k
  ·rw[if_neg (by rw[z];exact Í)] at e
   refine kat_no ?_;cases hb:(b&&i == 0) with
   |true =>
    obtain⟨f1,f2⟩:=hi hb;obtain⟨m,rfl⟩:=f1 x l rfl;obtain⟨n,rfl⟩:=f2 y t rfl;cases e;obtain⟨_,_,r1⟩:=a1;obtain⟨_,_,r2⟩:=c1;cases r1;cases r2;exact oneLt_int q
   |false=>exact kat_one _ _ ((g82 39 (A:=A) (s:=s)).1 x y v u r d1 a1 c1 e ∅ P w _ _ q)
theorem e01(h:d41 x=0):∃ i,x=.int i:=by
 cases x with
 |int i=>exact⟨i,rfl⟩
 |tup l =>
  cases l with
  |nil=>cases h
  |cons y r=>cases y <;> cases h
 |_=>cases h
theorem e11(h:d41 x=k)(h1:1<=k)(h3:k < 3):∃ y r,x=.tup (y::r)/\(k=1->∃ i,y=.int i)/\(k=2->∃ l,y=.tup l):=by
 cases x with
 |tup l =>
  cases l with
  |nil=>have:k=3:=h.symm;omega
  |cons y r =>
   refine⟨y,r,rfl,λe=>?_,λe=>?_⟩ <;> subst e <;> cases y <;> first | exact⟨_,rfl⟩ | cases h
 |int i=>have:k=0:=h.symm;omega|_=>have:k=3:=h.symm;omega
theorem h42(h1:1<=k)(h3:k < 3):∀ {us:List Ã}{l:List D},e10 h us l->(∀ x∈l,d41 x=k)->∃ fs,KatTups h us fs/\fs.length=us.length/\∀ v∈fs,(k=1->∃ i t,v=Ã.int i t)/\(k=2->∃ a o,v=Ä4 a/\h.get? a=some o/\o.cls=.type "tuple")
 |_,[],hd,_=>by rw[hd.g40];exact⟨[],.nil,rfl,λv hv=>absurd hv (by simp)⟩
 |_,x::r,hd,hk=>by
  obtain⟨u,q,rfl,⟨_,as,r1⟩,h2⟩:=hd.c50;obtain⟨fs,t1,t2,t3⟩:=h42 h1 h3 h2 λy hy=>hk y (É _ hy);obtain⟨y,l,rfl,y1,y2⟩:=e11 (hk x Ç) h1 h3;cases r1 with
  | @tuple a o vs n xs as k1 k2 k3 k4 =>
   cases hv:vs.toList with
   |nil=>rw[hv] at k4;cases k4
   |cons f fr =>
    rw[hv] at k4;cases k4 with
    |cons f1 f2 =>
     refine⟨f::fs,.cons k1 k2 k3 (by rw[← ÿ,hv];rfl) t1,by simp[t2],λv hm=>?_⟩
     rcases à.mp hm with rfl | hm
     ·refine⟨λe=>?_,λe=>?_⟩
      ·obtain⟨i,rfl⟩:=y1 e;cases f1;exact⟨_,_,rfl⟩
      ·obtain⟨m,rfl⟩:=y2 e;cases f1 with
       |tuple g1 g2 g3 g4=>exact⟨_,_,rfl,g1,g2⟩
     ·exact t3 v hm
def kdOf:Nat->É8
 |0=>Ö5|1=>tuples' true|_=>tuples' false
theorem e21(h:k30 x y=true):d41 y=d41 x/\ltD x y=some (MySort.f10 (flt x) (flt y))/\(flt x=flt y->x=y):=by
 unfold k30 at h;rw[À,À,Â9] at h;refine⟨eq_of_beq h.1,eq_of_beq h.2.1,λe=>?_⟩;rcases h.2.2 with k | k
 ·exact X31 _ _ k
 ·rw[e] at k;simp at k
theorem X51{P:ç}{w:ø}{A:ý}{s:Æ}{us:List Ã}{l:List D}{k:Nat}(hd:e10 s.heap us l)(k3:k < 3)(hk:∀ x∈l,d41 x=k)(h2:2<=us.length)(E:Ã->Æ->Prop)(Q:É8->Æ->Prop)(q:Q (kdOf k) s):Ô (Û P w) A (keyKind' us.toArray) Q E s:=by
 match k,k3,hk,q with
 |0,_,hk,q =>
  refine kas_kind h2 (T:=.type "int") (λv hv=>?_) rfl rfl q;obtain⟨i,hi,rfl⟩:=È9.mp hv;have hi':i < l.length:=by rw[← hd.len];exact hi
  obtain⟨_,as,r⟩:=hd.get (i:=i) (d:=l[i]) (by simp[hi'])
  obtain⟨n,hn⟩:=e01 (hk l[i] (À4 hi'));rw[hn] at r;have e:us.getD i è=us[i]:=by simp[hi]
  rw[e] at r;generalize us[i]=v at r;cases r;exact Ù7 rfl
 |1,_,hk,q =>
  obtain⟨fs,t1,t2,t3⟩:=h42 (-0) (-0) hd hk
  exact kat_kind (T:=.type "int") t1 ∅ (λv hv=>by obtain⟨i,t,rfl⟩:=(t3 v hv).1 rfl;exact Ù7 rfl) rfl q
 |2,_,hk,q =>
  obtain⟨fs,t1,t2,t3⟩:=h42 (-0) (-0) hd hk
  exact kat_kind (T:=.type "tuple") t1 ∅ (λv hv=>by
   obtain⟨a,o,rfl,g1,g2⟩:=(t3 v hv).2 rfl;rw[← g2];exact(Ó0 g1).andThen .now) rfl q
theorem x72{P:ç}{w:ø}{A:ý}{s:Æ}{us:List Ã}{l:List D}{k:Nat}(hd:e10 s.heap us l)(hu:A.units + 40 < Ä3)(k3:k < 3)(hk:∀ x∈l,d41 x=k)(ho:∀ x∈l,okD x=true)(hp:∀ x∈l,∀ y∈l,k30 x y=true)(i j:Nat)(hi:i < us.length)(hj:j < us.length)(E:Ã->Æ->Prop)(C:Bool->Æ->Prop)(hC:C (MySort.f10 ((l.map flt).getD i []) ((l.map flt).getD j [])) s):Ô (Û P w) A (keyLt' (kdOf k) (us.getD i è) (us.getD j è)) C E s:=by
 have hi':i < l.length:=by rw[← hd.len];exact hi
 have hj':j < l.length:=by rw[← hd.len];exact hj
 have mi:=À4 hi';have mj:=À4 hj';obtain⟨_,h2,_⟩:=e21 (hp _ mi _ mj);have a1:=hd.get (i:=i) (d:=l[i]) (by simp[hi'])
 have b1:=hd.get (i:=j) (d:=l[j]) (by simp[hj'])
 have e1:(l.map flt).getD i []=flt l[i]:=by simp[hi']
 have e2:(l.map flt).getD j []=flt l[j]:=by simp[hj']
 rw[e1,e2] at hC;generalize MySort.f10 (flt l[i]) (flt l[j])=c at h2 hC;have kx:=hk _ mi;have ky:=hk _ mj;have ox:=P70 (ho _ mi);generalize l[i]=x at *
 generalize l[j]=y at *
 have tup:∀ b:Bool,1<=k->(b=true->k=1)->Ô (Û P w) A (keyLt' (tuples' b) (us.getD i è) (us.getD j è)) C E s:=λb h1 hb=>by
  obtain⟨x1,xr,rfl,x2,_⟩:=e11 kx h1 k3;obtain⟨y1,yr,rfl,y2,_⟩:=e11 ky h1 k3;obtain⟨f1,as,r1⟩:=a1;obtain⟨f2,bs,r2⟩:=b1;generalize us.getD i è=v at r1;generalize us.getD j è=u at r2;cases r1 with
  |tuple p1 p2 p3 p4 =>
   cases r2 with
   |tuple q1 q2 q3 q4 =>
    refine kat_lt p1 p3 q1 q3 (S42 hu (x1::xr) (y1::yr) 0 ⟨f1,_,p4⟩ ⟨f2,_,q4⟩ h2 (by have:deep (.tup (x1::xr))=h70 (x1::xr) + 1:=rfl;omega) (λz=>?_) (by simp) hC)
    have hb1:=hb (by simpa using z)
    exact⟨λa q e=>by cases e;exact x2 hb1,λa q e=>by cases e;exact y2 hb1⟩
 match k,k3,kx,ky,tup with
 |0,_,kx,ky,_ =>
  obtain⟨m,rfl⟩:=e01 kx;obtain⟨n,rfl⟩:=e01 ky;cases h2;obtain⟨_,_,r1⟩:=a1;obtain⟨_,_,r2⟩:=b1;generalize us.getD i è=v at r1;generalize us.getD j è=u at r2;cases r1;cases r2;exact kat_lt_int hC
 |1,_,_,_,tup=>exact tup true (-0) λ_=>rfl|2,_,_,_,tup=>exact tup false (-0) λh=>by cases h
theorem x82(h64:us.length < 64)(hd:e10 s.heap us l)(hu:A.units + 40 < Ä3)(k3:k < 3)(hk:∀ x∈l,d41 x=k)(ho:∀ x∈l,okD x=true)(hp:∀ x∈l,∀ y∈l,k30 x y=true):MySort.d82 P w A s us (MySort.sortedBy (l.map flt)) (kdOf k) where
 len:=by omega
 few h2:=MySort.u52 (by rw[Å];exact hd.len) h2
 all p hp:=by rw[hp.1.length_eq,ê,Å,hd.len]
 kind:=X51 hd k3 hk
 run:=MySort.d92 (by rw[Å];exact hd.len) h64 (x72 hd hu k3 hk ho hp)
theorem X61:∀ {l:List D},upD l=true->∀ i,1<=i->i < l.length->MySort.f10 ((l.map flt).getD i []) ((l.map flt).getD (i - 1) [])=false
 |[],_,i,_,h2=>absurd h2 (Ð0 i)|[_],_,i,h1,h2=>by rw[Ò4] at h2;omega
 |x::y::r,h,i,h1,h2=>by
  have h:(!MySort.f10 (flt y) (flt x)&&upD (y::r))=true:=h;rw[À,á] at h
  match i,h1 with
  |1,_=>exact h.1|i + 2,_=>exact X61 h.2 (i + 1) ∅ (by rw[Õ] at h2;omega)
theorem x92{P:ç}{w:ø}{A:ý}{s:Æ}{us:List Ã}{l:List D}{k:Nat}(h64:64<=us.length)(hm:us.length<=1000)(up:upD l=true)(hd:e10 s.heap us l)(hu:A.units + 40 < Ä3)(k3:k < 3)(hk:∀ x∈l,d41 x=k)(ho:∀ x∈l,okD x=true)(hp:∀ x∈l,∀ y∈l,k30 x y=true):MySort.d82 P w A s us (λp=>p=Ø us.length) (kdOf k) where
 len:=hm
 few h2:=by omega
 all p hp:=by rw[hp,ê]
 kind:=X51 hd k3 hk
 run _:=MySort.u62 h64 hm λi h1 h2 E C hC=>x72 hd hu k3 hk ho hp i (i - 1) h2 ∅ E C (by rw[X61 up i h1 (by rw[← hd.len];exact h2)];exact hC)
theorem HdA.pick{K:Â}{H:Hp}{l:List D}{vs:List V}(h:HdA K H l vs):∀ {p:List Nat},(∀ i∈p,i < l.length)->HdA K H (p.map λi=>l.getD i .non) (p.map λi=>vs.getD i .non)
 |[],_=>.nil
 |i::p,hp=>by
  have hi:=hp i Ç;refine .cons ?_ (HdA.pick h λj hj=>hp j (É _ hj));obtain⟨v,e1,e2⟩:=h.get (i:=i) (d:=l[i]) (by simp[hi])
  have g1:l.getD i .non=l[i]:=by simp[hi]
  have g2:vs.getD i .non=v:=by rw[Ó,e1];rfl
  show Hd K H (l.getD i .non) (vs.getD i .non);rw[g1,g2];exact e2
end Q
namespace Q
open PySem L2 PySem.Spec PyProof.Rows
open PySem.W (kas_mapM kas_first_eq kas_item kas_item_eq kas_cmp)
theorem h52(h:k<=8):∀ i∈TS.sN k,i < 2 ^ k:=by
 have:∀ k,k < 9->((TS.sN k).all λi=>Õ0 i (2 ^ k))=true:=by decide +kernel
 intro i hi;exact Nat.blt_eq.mp (ä.mp (this k ∅) i hi)
theorem y02(h:k<=8):(TS.sN k).length=2 ^ k:=by
 have:∀ k,k < 9->beq (TS.sN k).length (2 ^ k)=true:=by decide +kernel
 exact Nat.eq_of_beq_eq_true (this k ∅)
theorem x50(h:i < 2 ^ k):(i40 k)[i]?=some (b50 k i):=by
 unfold i40;rw[ã,Õ1 h];rfl
theorem y12(h:k<=8):((TS.sN k).map λi=>(i40 k).getD i .non)=z61 k :=
 Á9 λi hi=>by rw[Ó,x50 (h52 h i hi)];rfl
theorem H10:∀ a b:List Nat,u41 (a.map λ(i:Nat)=>.int i) (b.map λ(i:Nat)=>.int i)=some (TS.c81 a b)
 |[],[]=>rfl|[],_::_=>rfl|_::_,[]=>rfl
 |a::r,b::q=>by
  show(if ((a:Int) == (b:Int))=true then u41 (r.map λ(i:Nat)=>.int i) (q.map λ(i:Nat)=>.int i) else some (decide ((a:Int) < b)))=some (if beq a b=true then TS.c81 r q else Õ0 a b);rw[H10 r q];by_cases h:a=b
  ·subst h;rw[if_pos (by simp),if_pos (Nat.beq_refl a)]
  ·rw[if_neg (by simp;omega),if_neg λe=>h (Nat.eq_of_beq_eq_true e)]
   congr 1
   rw[À0,decide_eq_true_eq,Nat.blt_eq];omega
variable [TB:Tb]
section
variable {P:ç}{w:ø}{A:ý}{E:Ã->Æ->Prop}{s:Æ}
def TupAt(h:ò)(v:Ã):Prop:=∃ a o xs n,v=.ref a/\h.get? a=some o/\o.cls=.type "tuple"/\o.data=.seq xs n
theorem j81(ho:s.heap.get? a=some o)(hc:o.cls=.type "tuple")(hd:o.data=.seq xs n)(q:Q xs[0]? s):Ô (Û P w) A (firstOfTuple' (.ref a)) Q E s:=by
 rw[kas_first_eq];refine Á (Û5 (show PySem.W.Looks (Û P w) s.heap (typeOf (.ref a)) o.cls from(Ó0 ho).andThen .now) ?_);rw[hc,if_neg (by first | decide | simp)]
 exact Á (Ï3 ho hd (Î q))
theorem W90:∀ (vs:List Ã),(∀ v∈vs,TupAt s.heap v)->∃ fs:List (Option Ã),∀ Q,Q fs s->Ô (Û P w) A (vs.mapM firstOfTuple') Q E s
 |[],_=>⟨[],λQ q=>by rw[List.mapM_nil];exact Î q⟩
 |v::vs,h=>by
  obtain⟨fs,hf⟩:=W90 vs λu hu=>h u (É _ hu);obtain⟨a,o,xs,n,rfl,ho,hc,hd⟩:=h v Ç;refine⟨xs[0]?::fs,λQ q=>?_⟩;rw[Õ2];exact Á (j81 ho hc hd (Á (hf _ (Î q))))
theorem h62(ho:s.heap.get? a=some o)(hc:o.cls=.type "tuple")(hd:o.data=.seq #[] n)(h:∀ v∈vs,TupAt s.heap v)(q:Q Ö5 s):Ô (Û P w) A (keyKind' (Ä4 a::vs).toArray) Q E s:=by
 obtain⟨fs,hf⟩:=W90 (P:=P) (w:=w) (A:=A) (E:=E) vs h;rw[keyKind'_eq,List.mapM_toArray,map_eq_pure_bind,Õ2];refine Á (Á (Á (j81 ho hc hd (Á (hf _ (Î (Î ?_)))))));rw[if_neg (by simp),if_neg (by simp)]
 rw[oneTypeOnly'_eq,List.mapM_toArray,map_eq_pure_bind];refine Á (Á (Á (kas_mapM (r:=.type "tuple") _ (λv hv Q' hq=>?_) (Î ?_))))
 ·have:TupAt s.heap v:=by
   rcases à.mp hv with rfl | hv
   ·exact⟨_,_,_,_,rfl,ho,hc,hd⟩
   ·exact h v hv
  obtain⟨b,o',xs,m,rfl,ho',hc',_⟩:=this;rw[← hc'] at hq;exact Û5 (show PySem.W.Looks (Û P w) s.heap (typeOf (.ref b)) o'.cls from(Ó0 ho').andThen .now) hq
 ·have hall:((List.map (λ_=>Ã5 "tuple") (Ä4 a::vs)).toArray.all λx=>x == Ã5 "tuple")=true:=by
   simp only[List.all_toArray,all_map,Á1];intro _ _;rfl
  have h0:(List.map (λ_=>Ã5 "tuple") (Ä4 a::vs)).toArray[0]?=some (Ã5 "tuple"):=by simp
  rw[h0];simp only[hall,if_true];exact Î (Î q)
theorem y22(hl:Ï1 s.heap l i1)(hb:Ï1 s.heap b i2)(hu:A.units < Ä3)(hx:Lx A.in1 s i1.toList i2.toList c)(q:Q c s):Ô (Û P w) A (keyLt' Ö5 (.ref l) (.ref b)) Q E s:=by
 obtain⟨⟨cls,dd,data,sl⟩,ho,hc,n,hd⟩:=id hl;obtain⟨⟨cls2,dd2,data2,sl2⟩,ho2,hc2,n2,hd2⟩:=id hb;simp only at hc hd hc2 hd2;subst hc hd hc2 hd2;rw[keyLt'_oneType,oneLt'_eq];simp only[if_true];refine Á (wpAny_cRoomFor hu (Á (wpAny_callSpecialIfBound?_slot ⟨_,ho,rfl⟩ Ñ4 (È4 Ñ4 ⟨_,ho,rfl⟩ Ü9 (Ü3 _ _) (G80 l b i1 i2 n n2 dd dd2 sl sl2 c) ⟨ho,ho2,hx,?_⟩))));exact À8 q
theorem y32(h8:k<=8)(hd:e10 s.heap us (i40 k))(hu:A.units + 40 < Ä3):MySort.d82 P w A s us (λp=>p=TS.sN k) Ö5 where
 len:=by rw[hd.len,i40,Å,ê];exact Ù (É4 (-0) h8) (-0)
 few h2:=by
  rw[hd.len,i40,Å,ê] at h2 ⊢;cases k with
  |zero=>rfl|succ k=>have:=Nat.one_le_two_pow (n:=k);rw[pow_succ] at h2;omega
 all p hp:=by subst hp;rw[hd.len,i40,Å,ê,y02 h8]
 kind h2 E Q q:=by
  have ht:∀ i v,us[i]?=some v->∃ xs n a o,v=.ref a/\s.heap.get? a=some o/\o.cls=.type "tuple"/\o.data=.seq xs n/\(i=0->xs=#[]):=λi v e=>by
   have hi:i < us.length:=(Þ.mp e).1;have hi':i < 2 ^ k:=by rw[hd.len,i40,Å,ê] at hi;exact hi
   obtain⟨_,as,r⟩:=hd.get (x50 hi');have e2:us.getD i è=v:=by rw[Ó,e];rfl
   rw[e2] at r;have z0:∀ k,TS.A40 k 0 0=[]:=λk=>by
    have:∀ k i,TS.A40 k i 0=[]:=λk=>by
     induction k with
     |zero=>exact λ_=>rfl|succ k ih=>exact λi=>ih (i + 1)
    exact this k 0
   cases i with
   |zero =>
    have r:Reads s.heap v (toP (.tup ((TS.A40 k 0 0).map λ(i:Nat)=>.int i))) as:=r;rw[z0] at r;cases r with
    | @tuple a o vs n xs as k1 k2 k3 k4 =>
     have:vs.toList=[]:=by cases hv:vs.toList with | nil=>rfl | cons _ _=>rw[hv] at k4;cases k4
     exact⟨vs,n,a,o,rfl,k1,k2,k3,λ_=>Array.toList_eq_nil_iff.mp this⟩
   |succ i =>
    cases r with
    | @tuple a o vs n xs as k1 k2 k3 k4=>exact⟨vs,n,a,o,rfl,k1,k2,k3,λe=>by cases e⟩
  match us,ht with
  |[],_=>simp at h2
  |v::vs,ht =>
   obtain⟨xs,n,a,o,rfl,h1,h3,h4,h5⟩:=ht 0 v rfl;cases h5 rfl;refine h62 h1 h3 h4 (λu hu=>?_) q;obtain⟨i,hi,rfl⟩:=È9.mp hu;obtain⟨xs,n,a,o,e,h1,h3,h4,_⟩:=ht (i + 1) vs[i] (by simp[hi])
   exact⟨a,o,xs,n,e,h1,h3,h4⟩
 run h2:=by
  have hl:us.length=2 ^ k:=by rw[hd.len,i40,Å,ê]
  have h1:1<=k:=by
   cases k with
   |zero=>rw[hl] at h2;exact absurd h2 (-0)|succ k=>omega
  refine TS.runL h1 h8 hl λi j C hi hj hC=>?_;have e1:=Ô6 us i;have e2:=Ô6 us j;show Ô (Û P w) A (keyLt' Ö5 (ì (pairsOf us) i).1 (ì (pairsOf us) j).1) C _ s;rw[e1,e2];obtain⟨f1,as,r1⟩:=hd.get (x50 hi);obtain⟨f2,bs,r2⟩:=hd.get (x50 hj);show Ô (Û P w) A (keyLt' Ö5 (us.getD i è) (us.getD j è)) C _ s;generalize us.getD i è=v at r1;generalize us.getD j è=u at r2;cases r1 with
  |tuple p1 p2 p3 p4 =>
   cases r2 with
   |tuple q1 q2 q3 q4 =>
    refine y22 ⟨_,p1,p2,_,p3⟩ ⟨_,q1,q2,_,q3⟩ ∅ ((g82 40).2 _ _ _ _ _ ?_ ⟨f1,_,p4⟩ ⟨f2,_,q4⟩ (H10 _ _) ∅) hC
    have:∀ l:List Nat,h70 (l.map λ(i:Nat)=>.int i)=0:=λl=>by
     induction l with
     |nil=>rfl|cons x r ih=>show Nat.max 0 _=0;rw[ih];rfl
    rw[this];decide
end
section
variable {X:Cx}
theorem h72{zA:Option È}{H:Hp}{k:Nat}{xs:List V}(hu:X.A.units + 64 < Ä3)(hd:HdA X.K H (i40 k) xs)(h8:k<=8):y51 X H xs (λp=>p=TS.sN k):=by
 intro pins σ s us I rv;have ci:∀ l:List Nat,g00 (l.map λ(i:Nat)=>.int i)=true/\L50 (l.map λ(i:Nat)=>.int i) (l.map λ(i:Nat)=>.int i)=true:=λl=>by
  induction l with
  |nil=>exact⟨rfl,rfl⟩|cons x r ih=>exact⟨ih.1,by show((x:Int) == (x:Int)&&_)=true;rw[ih.2];simp⟩
 have cl:∀ l:List Nat,g00 (l.map (b50 k))=true/\L50 (l.map (b50 k)) (l.map (b50 k))=true:=λl=>by
  induction l with
  |nil=>exact⟨rfl,rfl⟩
  |cons x r ih =>
   refine⟨?_,?_⟩
   ·show(g00 _&&_)=true;rw[(ci _).1,ih.1];rfl
   ·show(L50 _ _&&_)=true;rw[(ci _).2,ih.2];rfl
 obtain⟨as,ra⟩:=G60 I hd rv (cl _).1;exact⟨Ö5,λh' kp=>y32 h8 ⟨(cl _).1,_,q50 kp _ (cl _).2 ra⟩ (by show X.A.units + 1 + 1 + 40 < Ä3;omega)⟩
theorem A91{zA:Option È}{H:Hp}{l:List D}{xs:List V}{Pr:List Nat->Prop}(hd:HdA X.K H l xs)(ok:i30 l=true)(mk:∀ (s:Æ) (us:List Ã) (k:Nat),us.length=l.length->e10 s.heap us l->k < 3->(∀ x∈l,d41 x=k)->(∀ x∈l,okD x=true)->(∀ x∈l,∀ y∈l,k30 x y=true)->MySort.d82 X.prog X.w X.A.in1.in1 s us Pr (kdOf k)):y51 X H xs Pr:=by
 intro pins σ s us I rv;have hlen:us.length=l.length:=by rw[← rv.length,hd.length]
 have all:∀ x∈l,d41 x < 3/\okD x=true/\∀ y∈l,k30 x y=true:=λx hx=>by
  have:=ä.mp ok x hx;rw[À,À,decide_eq_true_eq,Á1] at this;exact⟨this.1,this.2.1,this.2.2⟩
 have hf:g00 l=true:=by
  clear hd mk hlen
  induction l with
  |nil=>rfl
  |cons x r ih =>
   have h1:=(q40 (all x Ç).2.1).1;show(A20 x&&g00 r)=true;rw[h1];have ok':i30 r=true:=ä.mpr λy hy=>by
    obtain⟨a,b,c⟩:=all y (É _ hy);rw[À,À,decide_eq_true_eq,Á1];exact⟨a,b,λz hz=>c z (É _ hz)⟩
   exact ih ok' λy hy=>⟨(all y (É _ hy)).1,(all y (É _ hy)).2.1,λz hz=>(all y (É _ hy)).2.2 z (É _ hz)⟩
 obtain⟨as,ra⟩:=G60 I hd rv hf;have pure:L50 l l=true:=by
  clear hd ra hf ok;have:∀ q:List D,(∀ x∈q,eqT x x=true)->L50 q q=true:=λq=>by
   induction q with
   |nil=>intro _;rfl|cons x r ih=>intro h;show(eqT x x&&L50 r r)=true;rw[h x Ç,ih λy hy=>h y (É _ hy)];rfl
  refine this l λx hx=>?_;have h:=(all x hx).2.2 x hx;unfold k30 at h;rw[À,À,Â9] at h;rcases h.2.2 with k | k
  ·exact k
  ·simp at k
 cases l with
 |nil=>exact⟨kdOf 0,λh' kp=>mk _ _ _ hlen ⟨hf,_,q50 kp _ pure ra⟩ (-0) (λx hx=>absurd hx (by simp)) (λx hx=>absurd hx (by simp)) λx hx=>absurd hx (by simp)⟩
 |cons x r =>
  have hx:=all x Ç;exact⟨kdOf (d41 x),λh' kp=>mk _ _ _ hlen ⟨hf,_,q50 kp _ pure ra⟩ hx.1 (λy hy=>(e21 (hx.2.2 y hy)).1) (λy hy=>(all y hy).2.1) λy hy=>(all y hy).2.2⟩
theorem h82{zA:Option È}{H:Hp}{l:List D}{xs:List V}(hu:X.A.units + 64 < Ä3)(hd:HdA X.K H l xs)(h64:l.length < 64)(ok:i30 l=true):y51 X H xs (MySort.sortedBy (l.map flt)) :=
 A91 (zA:=zA) hd ok λ_ _ _ hl d k3 hk ho hp=>x82 ∅ d (by show X.A.units + 1 + 1 + 40 < Ä3;omega) k3 hk ho hp
theorem h92{zA:Option È}{H:Hp}{l:List D}{xs:List V}(hu:X.A.units + 64 < Ä3)(hd:HdA X.K H l xs)(h64:64<=l.length)(hm:l.length<=1000)(up:upD l=true)(ok:i30 l=true):y51 X H xs (λp=>p=Ø l.length) :=
 A91 (zA:=zA) hd ok λ_ _ _ hl d k3 hk ho hp=>hl ▸ x92 ∅ ∅ up d (by show X.A.units + 1 + 1 + 40 < Ä3;omega) k3 hk ho hp
theorem i02(l:List D):((Ø l.length).map λi=>l.getD i .non)=l:=by
 apply List.ext_getElem?;intro i;rw[ã];by_cases h:i < l.length
 ·rw[Õ1 h,Ñ h];simp[h]
 ·rw[Þ2 (by rw[ê];omega),Þ2 ∅];rfl
theorem B01(hu:X.A.units + 64 < Ä3):h00 X (.builtin "sorted") (rDn X.K (bfD .sorted)):=by
 intro pins s σ H xs us Q I r h;obtain⟨zA,z,ds,w,st,hx,e,q⟩:=h
 match ds,e with
 |[x],e =>
  have e:sortedS x=some w:=e;unfold sortedS at e;obtain⟨l,h1,e⟩:=Ï.mp e;obtain⟨v,rfl,hv⟩:=hx.one;have go:∀ (a:È) (ys:List V),v=.ref a->(SqL X.K H a ys∨SqT X.K H a ys)->HdA X.K (hz zA H) l ys->Ô (Û X.prog X.w) X.A (call (.builtin "sorted") us) (EP X pins σ Q) X.xe s:=λa ys hva hq hd=>by
   subst hva;by_cases c:l.length < 64/\i30 l=true
   ·rw[if_pos c] at e;cases e;obtain⟨h64,ok⟩:=c;refine q30 pins s σ H _ us Q I r ⟨a,ys,MySort.sortedBy (l.map flt),rfl,hq,h82 (zA:=zA) hu (hd.same (a10 zA H)) h64 ok,λp hp i hi=>by have:=hp.1.mem_iff.mp hi;rw[hd.length];simpa using this,λp lA hp hn=>?_⟩
    have hd2:=hd.pick (p:=p) λi hi=>by have:=hp.1.mem_iff.mp hi;simpa using this
    rw[h32 (λx hx y hy=>?_) hp] at hd2
    ·exact q _ _ (a30.new _ hn) (u20 st hd2 hn)
    ·have:=ä.mp ok x hx;rw[À,À,Á1] at this;exact(e21 (this.2.2 y hy)).2.2
   ·rw[if_neg c] at e;by_cases c2:v82 l=true
    ·unfold P31 at e;rw[if_pos c2] at e;cases e;unfold v82 at c2;rw[À,À,decide_eq_true_eq] at c2;have h64:64<=l.length:=Ú5 λq=>c ⟨q,c2.2.1⟩;refine q30 pins s σ H _ us Q I r ⟨a,ys,λp=>p=Ø l.length,rfl,hq,h92 (zA:=zA) hu (hd.same (a10 zA H)) h64 c2.1 c2.2.2 c2.2.1,λp hp i hi=>by subst hp;rw[hd.length];exact é.mp hi,λp lA hp hn=>?_⟩
     subst hp;have hd2:=hd.pick (p:=Ø l.length) λi hi=>é.mp hi;rw[i02] at hd2;exact q _ _ (a30.new _ hn) (u20 st hd2 hn)
    unfold P31 at e;rw[if_neg c2] at e;obtain⟨l',e1,rfl⟩:=Ì.mp e;obtain⟨k,e2,rfl⟩:=Ì.mp e1;have e3:=d91 _ _ (List.find?_some (p:=λk=>L50 l (i40 k)) e2);have k8:k<=8:=by have:=List.mem_of_find?_eq_some e2;simp at this;omega
    subst e3;refine q30 pins s σ H _ us Q I r ⟨a,ys,λp=>p=TS.sN k,rfl,hq,h72 (zA:=zA) hu (hd.same (a10 zA H)) k8,λp hp i hi=>?_,λp lA hp hn=>?_⟩
    ·subst hp;rw[hd.length,i40,Å,ê];exact h52 k8 i hi
    ·subst hp;have hd2:=hd.pick (p:=TS.sN k) λi hi=>by rw[i40,Å,ê];exact h52 k8 i hi
     rw[y12 k8] at hd2;exact q _ _ (a30.new _ hn) (u20 st hd2 hn)
  cases x with
  |tup m =>
   cases h1;obtain⟨a,ys,rfl,k1,k2⟩:=hv.E10;exact go a ys rfl (.inr ((a10 zA H).sqT k1)) k2
  |lst m =>
   cases h1;obtain⟨a,ys,rfl,k1,k2⟩:=hv.b41;exact go a ys rfl (.inl (k1.same (a10 zA H)).sq) k2
  |_=>cases h1
end
structure Gs where
 fns:List (Str × List Str)
 nums:List (Str × Int)
 F:FT
 cls:Nat->Addr
 lv:Nat
def EPost(G:Gs)(zA:Option È)(E:XK)(c:Nat)(z:Z)(H:Hp):Prop:=∀ e H',Ext zA H H'->f20 zA z H'->H' e=none->E (.ref (G.cls c)) (some e) H'
theorem EPost.mono(h:EPost G zA E c z H)(e:Ext zA H H1):EPost G zA E c z H1:=λa H' x s n=>h a H' (e.trans x) s n
def L12(K:Â)(G:Gs)(zA:Option È)(E:XK)(H:Hp)(Q:VK):R S->Prop
 |.ok s z'=>∀ v H',Ext zA H H'->f20 zA z' H'->RvS K zA H H' s v->Q v H'|.er c z'=>EPost G zA E c z' H
def e31(K:Â)(G:Gs)(zA:Option È)(E:XK)(H:Hp)(Q:VK):R (List S)->Prop
 |.ok l z'=>∃ s,l=[s]/\∀ v H',Ext zA H H'->f20 zA z' H'->RvS K zA H H' s v->Q v H'|.er c z'=>EPost G zA E c z' H
def L22(K:Â)(G:Gs)(zA:Option È)(E:XK)(H:Hp)(Q:List V->Hp->Prop):R (List S)->Prop
 |.ok l z'=>∀ vs H',Ext zA H H'->f20 zA z' H'->Ä5 (RvS K zA H H') l vs->Q vs H'|.er c z'=>EPost G zA E c z' H
def Q51(G:Gs)(zA:Option È)(E:XK)(H:Hp)(Q:Bool->Hp->Prop):R (List S)->Prop
 |.ok l z'=>∃ b,l=[.d (.bl b)]/\∀ H',Ext zA H H'->f20 zA z' H'->Q b H'|.er c z'=>EPost G zA E c z' H
def E60(K:Â)(zA:Option È)(H:Hp)(ρ:Env)(σ:L2.St):Prop:=∀ (i:Nat) (s:S),ρ[i]?=some (some s)->∃ v,σ[i]?=some (some v)/\RvP K zA H s v
theorem E60.mono{K:Â}{zA:Option È}{H H':Hp}{ρ:Env}{σ:L2.St}(h:E60 K zA H ρ σ)(e:Ext zA H H'):E60 K zA H' ρ σ:=λi s q=>let ⟨v,a,b⟩:=h i s q;⟨v,a,b.mono e⟩
def tI(K:Â)(G:Gs)(E:XK)(x:Ex):TE:=λσ H Q=>∃ zA ρ z r,E60 K zA H ρ σ/\f20 zA z H/\ev G.F x ρ z=some r/\e31 K G zA E H Q r
def tA(K:Â)(G:Gs)(E:XK)(x:Ex):TA:=λσ H Q=>∃ zA ρ z r,E60 K zA H ρ σ/\f20 zA z H/\ev G.F x ρ z=some r/\L22 K G zA E H Q r
def tT(K:Â)(G:Gs)(E:XK)(x:Ex):TT:=λσ H Q=>∃ zA ρ z r,E60 K zA H ρ σ/\f20 zA z H/\ev G.F x ρ z=some r/\Q51 G zA E H Q r
def spF(K:Â)(G:Gs)(f n:Nat):Sp:=λvs H Q E=>vs.length=n/\∃ zA z ss r,RvA K zA H ss vs/\f20 zA z H/\G.F false f ss z=some r/\L12 K G zA E H Q r
section
variable {K:Â}{G:Gs}{E:XK}{a x:Ex}{ρ:Env}{z:Z}{zA:Option È}{σ:L2.St}{H:Hp}
theorem l40{α:Type}{k:List S->M α}{r:R α}{Q':VK}(rel:E60 K zA H ρ σ)(st:f20 zA z H)(h:M.bind (ev G.F a ρ) k z=some r)(her:∀ c z1,r=.er c z1->EPost G zA E c z1 H)
  (hok:∀ l z1,k l z1=some r->∃ s,l=[s]/\∀ v H1,Ext zA H H1->f20 zA z1 H1->RvS K zA H H1 s v->Q' v H1):tI K G E a σ H Q':=by
 rcases M.bind_some h with ⟨l,z1,e1,e2⟩ | ⟨c,z1,e1,e2⟩
 ·exact⟨zA,ρ,z,_,rel,st,e1,hok l z1 e2⟩
 ·exact⟨zA,ρ,z,_,rel,st,e1,her c z1 e2⟩
theorem s31{α:Type}{k:List S->M α}{r:R α}{Q':List V->Hp->Prop}(rel:E60 K zA H ρ σ)(st:f20 zA z H)(h:M.bind (ev G.F a ρ) k z=some r)(her:∀ c z1,r=.er c z1->EPost G zA E c z1 H)
  (hok:∀ l z1,k l z1=some r->∀ vs H1,Ext zA H H1->f20 zA z1 H1->Ä5 (RvS K zA H H1) l vs->Q' vs H1):tA K G E a σ H Q':=by
 rcases M.bind_some h with ⟨l,z1,e1,e2⟩ | ⟨c,z1,e1,e2⟩
 ·exact⟨zA,ρ,z,_,rel,st,e1,hok l z1 e2⟩
 ·exact⟨zA,ρ,z,_,rel,st,e1,her c z1 e2⟩
theorem X00{α:Type}{k:Bool->M α}{r:R α}{Q':Bool->Hp->Prop}(rel:E60 K zA H ρ σ)(st:f20 zA z H)(h:M.bind (ev G.F a ρ) (λx=>M.bind (M.of ((pl x).bind asB)) k) z=some r)(her:∀ c z1,r=.er c z1->EPost G zA E c z1 H)
  (hok:∀ b z1,k b z1=some r->∀ H1,Ext zA H H1->f20 zA z1 H1->Q' b H1):tT K G E a σ H Q':=by
 rcases M.bind_some h with ⟨l,z1,e1,e2⟩ | ⟨c,z1,e1,e2⟩
 ·obtain⟨b,e3,e4⟩:=M.a20 e2;obtain⟨d,e5,e6⟩:=Ï.mp e3;have el:l=[.d (.bl b)]:=by
   obtain⟨s,rfl,hs⟩:=g50 e5;cases s with
   |d y=>cases hs;cases d <;> first | (cases e6;rfl) | cases e6
   |fr ys=>cases hs;cases e6
   |_=>cases hs
  exact⟨zA,ρ,z,_,rel,st,e1,b,el,hok b z1 e4⟩
 ·exact⟨zA,ρ,z,_,rel,st,e1,her c z1 e2⟩
theorem H20{l:List S}{s:S}(h:one l=some s):l=[s]:=by
 unfold one at h;split at h
 ·cases h;rfl
 ·cases h
end
theorem PE.imp(h:PE X e t)(i:∀ σ H Q,t' σ H Q->t σ H Q):PE X e t':=λpins s σ H Q I q=>h pins s σ H Q I (i _ _ _ q)
theorem PT.imp(h:PT X e t)(i:∀ σ H Q,t' σ H Q->t σ H Q):PT X e t':=λpins s σ H Q I q=>h pins s σ H Q I (i _ _ _ q)
theorem PW.imp(h:PW X e t)(i:∀ σ H Q,t' σ H Q->t σ H Q):PW X e t':=λw pins s σ H Q I q=>h w pins s σ H Q I (i _ _ _ q)
theorem PA.imp(h:PA X e t)(i:∀ σ H Q,t' σ H Q->t σ H Q):PA X e t':=λp pins s σ H Q I q=>h p pins s σ H Q I (i _ _ _ q)
def noStar:Ò->Bool
 |.Starred ..=>false|_=>true
theorem d30(h:noStar e=true)(es:List Ò)(env:Ç8):þ (e::es) env=(false,eval e env)::þ es env:=by
 cases e <;> first | rfl | cases h
theorem x60:∀ {es:List Ò} (env:Ç8) (pos:Pos),es.all noStar=true->(Ó9 pos (þ es env)).any (·.1)=false
 |[],_,_,_=>rfl
 |e::es,env,pos,h=>by
  rw[Ã6,À] at h;rw[d30 h.1];show(false || (Ó9 pos (þ es env)).any (·.1))=false;rw[x60 env pos h.2];rfl
def plainT:Ò->Bool
 |.UnaryOp .Not _ _=>false|.BoolOp ..=>false|.IfExp ..=>false|.Compare ..=>false|_=>true
theorem B11(h:plainT e=true)(env:Ç8)(whole:Sem Ã):isTrue e env whole=(do let v ← whole;standAt e.pos;holding [v] (truthy v)):=by
 cases e with
 |UnaryOp op _ _=>cases op <;> first | rfl | cases h
 |BoolOp _ _ _=>cases h
 |IfExp _ _ _ _=>cases h
 |Compare _ _ _ _=>cases h
 |_=>rfl
def e41:Ò->Bool
 |.Slice ..=>false|_=>true
theorem L60(h:e41 e=true):w51 e:=λo i=>by
 cases e with
 |Slice _ _ _ _=>cases h
 |_=>rfl
def x70:Ò->Bool
 |.Set ..=>false|_=>true
theorem B21(h:x70 e=true)(op:CmpOp):behindInMarks op e=false:=by
 cases e with
 |Set _ _ _=>cases h
 |_=>rfl
structure b00(X:Cx)(G:Gs)(E:XK)(x:Ex)(e:Expr):Prop where
 pe:PE X e (tI X.K G E x)
 pt:(∀ t a b p,e≠.IfExp t a b p)->PT X e (tT X.K G E x)
 pw:∀ op vs p,e=.BoolOp op vs p->PW X e (tT X.K G E x)
theorem b20(h:PE X e (tI X.K G E x))(hp:plainT e=true):b00 X G E x e:=by
 refine⟨h,λ_=>PT.imp (r22 h (B11 hp X.env)) λσ H Q q=>?_,λop vs p he=>?_⟩
 ·obtain⟨zA,ρ,z,r,rel,st,e,po⟩:=q;refine⟨zA,ρ,z,r,rel,st,e,?_⟩;cases r with
  |er c z1=>exact po
  |ok l z1 =>
   obtain⟨b,rfl,po⟩:=po;exact⟨_,rfl,λv H' ex st' rv=>⟨b,Hd.bl_ (show Hd X.K (hz zA H') (.bl b) v from rv),po H' ex st'⟩⟩
 ·subst he;cases hp
def isL:Ex->Bool
 |.nil=>true|.cons _ _=>true|_=>false
def Good(X:Cx)(G:Gs)(E:XK):Ex->List Ò->Prop
 |.nil,es=>es=[]|.cons a r,es=>∃ e es',es=e::es'/\noStar e=true/\b00 X G E a e/\isL r=true/\Good X G E r es'|x,es=>∃ e,es=[e]/\b00 X G E x e
theorem Good.args:∀ {x:Ex}{es:List Ò},isL x=true->Good X G E x es->PA X es (tA X.K G E x)/\es.all noStar=true:=by
 intro x
 induction x with
 |nil =>
  intro es _ h;have h:es=[]:=h;subst h;refine⟨PA.imp L10 λσ H Q q=>?_,rfl⟩;obtain⟨zA,ρ,z,r,rel,st,e,po⟩:=q;cases e;exact po [] H Ext.refl st .nil
 |cons a r _ ih =>
  intro es _ h;obtain⟨e,es',rfl,ns,g,lr,gr⟩:=h;obtain⟨h1,h2⟩:=ih lr gr;refine⟨PA.imp (o30 g.pe h1 (d30 ns es' X.env)) λσ H Q q=>?_,by rw[Ã6,ns,h2];rfl⟩
  obtain⟨zA,ρ,z,rr,rel,st,e,po⟩:=q;have her:∀ c z1,rr=.er c z1->EPost G zA E c z1 H:=λc z1 e=>by subst e;exact po
  refine l40 rel st e her λl z1 e1=>?_;obtain⟨s,hs,e2⟩:=M.a20 e1;refine⟨s,H20 hs,λv H1 x1 st1 rv=>?_⟩;refine s31 (rel.mono x1) st1 e2 (λc z2 q=>(her c z2 q).mono x1) λl2 z2 e3 vs H2 x2 st2 rvs=>?_;cases e3;exact po (v::vs) H2 (x1.trans x2) st2 (.cons (rv.mono x2) (Ä5.p32 rvs λ_ _ q=>q.from x1))
 |_=>intro es h;cases h
def i22:List Str:=["len","sorted","tuple","list","sum","min","max","abs","all","any","int","bool","str","isinstance","range","zip","enumerate","set"]
structure XI(lm:Bool)(X:Cx)(G:Gs)(E:XK)(N:List Str)(sc:Scope):Prop where
 gok:∀ f nm ps,G.fns[f]?=some (nm,ps)->∃ fa fd,X.mg nm=some (.ref fa)/\PySem.W.keepIn X.K (.ref fa)=true/\Binds X.K fd ps []/\q31 X.prog X.w X.K X.mg X.base (CX1 X.prog X.w) G.lv fa fd ps (spF X.K G f ps.length)
 num:∀ p∈G.nums,∃ t,X.mg p.1=some (.int p.2 t)
 blt:∀ n∈i22,X.mg n=none
 hN:X.N=N
 nd:N.Nodup
 vis:∀ x∈N,Vis X.env.scope x
 glb:∀ x,sc.names.lookup x=some .globalImplicit->Gl X x
 cel:∀ x,(sc.names.lookup x=some .cell∨sc.names.lookup x=some .free)->(X.env.kindOf x=some .cell∨X.env.kindOf x=some .free)
 calm:X.calm=true
 room:U60 G.lv X.A
 pas:Passes (CX1 X.prog X.w) X E
def glob(sc:Á2)(x:Str):Bool:=sc.names.lookup x == some .globalImplicit&&!(x == ("__debug__":Str))&&!(x == ("__name__":Str))
def c70(x:Str):Bool:=!(x == ("__debug__":Str))&&!(x == ("__classdict__":Str))
def y42:Const->D->Bool
 |.int i,.int j=>i == j|.bool a,.bl b=>a == b|.str x,.str y=>x == y|.none,.non=>true|_,_=>false
def bfN:Bf->Str × Bool
 |.len=>("len",false) | .sorted=>("sorted",false) | .tuple=>("tuple",true) | .list=>("list",true) | .sum=>("sum",false) | .min=>("min",false) | .max=>("max",false) | .abs=>("abs",false)|.all=>("all",false) | .any=>("any",false) | .int=>("int",true) | .sset=>("sorted",false) | .F92=>("len",false)
def served:Bf->Bool
 |.len | .tuple | .list | .min | .max | .abs | .all | .any | .int | .sorted | .sum=>true|_=>false
mutual
noncomputable def l50(N:List Str)(loc:Str->Bool):Pat->Ò->Bool
 |.v i=>λe=>match e with
  |.Name x _=>N[i]? == some x&&loc x|_=>false
 |.tup ps=>λe=>match e with
  |.Tuple es _ _=>s41 N loc ps es|_=>false
 |.nil=>λ_=>false|.cons _ _=>λ_=>false
noncomputable def s41(N:List Str)(loc:Str->Bool):Pat->List Ò->Bool
 |.nil=>λes=>es.isEmpty
 |.cons p r=>λes=>match es with
  |e::es=>noStar e&&l50 N loc p e&&s41 N loc r es|[]=>false
 |.v _=>λ_=>false|.tup _=>λ_=>false
end
def n40:Ò->Bool
 |.Tuple ..=>true|_=>false
def d60:Ò->List Str
 |.Name x _=>[x]|.Tuple es _ _=>names es|_=>[]
where names:List Ò->List Str
 |[]=>[]|.Name x _::r=>x::names r|.Tuple [.Name a _,.Name b _] _ _::r=>a::b::names r|_::r=>names r
def X10(csc sc:Á2)(N own:List Str)(capt:List (Str × Nat)):Bool :=
 csc.kind == .function&&csc.names.all (λy=>y.2 != .cell)&&csc.names.all (λy=>y.2 != .local || csc.names.lookup y.1 == some .local) &&
  csc.names.all (λy=>y.2 != .free || (sc.names.lookup y.1 == some .cell || sc.names.lookup y.1 == some .free))&&capt.all (λp=>N[p.2]? == some p.1&&csc.names.lookup p.1 == some .free) &&
  own.all (λx=>csc.names.lookup x == some .local)&&decide (own++capt.map (·.1)).Nodup
def f60(N:List Str):List Nat->List (Str × Nat)
 |[]=>[]
 |i::r=>match N[i]? with
  |some x=>(x,i)::f60 N r|none=>f60 N r
def opt{α:Type}(o:Option α)(f:α->Bool):Bool:=match o with
 |some a=>f a|none=>false
theorem a50{α:Type}{o:Option α}{f:α->Bool}(h:opt o f=true):∃ a,o=some a/\f a=true:=by
 cases o with
 |none=>cases h
 |some a=>exact⟨a,rfl,h⟩
def S52:(e:List Ò)->Option {q:Str × Pos // e=[.Name q.1 q.2]}
 |[.Name n p]=>some ⟨(n,p),rfl⟩|_=>none
def L32:(e:List Ò)->Option {q:Const × Nat × Pos // e=[.Constant q.1 q.2.1 q.2.2]}
 |[.Constant c k p]=>some ⟨(c,k,p),rfl⟩|_=>none
def L42:(e:List Ò)->Option {q:Pos // e=[.Dict [] [] q]}
 |[.Dict [] [] p]=>some ⟨p,rfl⟩|_=>none
def L52:(e:List Ò)->Option {q:List Ò × Nat × Pos // e=[.Tuple q.1 q.2.1 q.2.2]}
 |[.Tuple l k p]=>some ⟨(l,k,p),rfl⟩|_=>none
def L62:(e:List Ò)->Option {q:List Ò × Pos // e=[.List q.1 q.2]}
 |[.List l p]=>some ⟨(l,p),rfl⟩|_=>none
def L72:(e:List Ò)->Option {q:Ò × Ð6 × Ò × Pos // e=[.BinOp q.1 q.2.1 q.2.2.1 q.2.2.2]}
 |[.BinOp l o r p]=>some ⟨(l,o,r,p),rfl⟩|_=>none
def L82:(e:List Ò)->Option {q:Ò × CmpOp × Ò × Pos // e=[.Compare q.1 [q.2.1] [q.2.2.1] q.2.2.2]}
 |[.Compare l [o] [r] p]=>some ⟨(l,o,r,p),rfl⟩|_=>none
def Y72:(e:List Ò)->Option {q:Str × Pos × Nat × Pos × Pos × Ò × Á2 × Pos // e=[.DictComp (.Name q.1 q.2.1) (.Constant (.bool true) q.2.2.1 q.2.2.2.1) [⟨.Name q.1 q.2.2.2.2.1,q.2.2.2.2.2.1,[],0⟩] q.2.2.2.2.2.2.1 q.2.2.2.2.2.2.2]}
 |[.DictComp (.Name n p1) (.Constant (.bool true) k p2) [⟨.Name m px,iter,[],0⟩] sc ps]=>if h:m=n then some ⟨(n,p1,k,p2,px,iter,sc,ps),by rw[h]⟩ else none|_=>none
def Y82(o:Bool):(e:List Ò)->Option {q:Ò × Str × Pos × Pos // e=[.Compare q.1 [G12 o] [.Name q.2.1 q.2.2.1] q.2.2.2]}
 |[.Compare l [c] [.Name n p] pos]=>if h:c=G12 o then some ⟨(l,n,p,pos),by rw[h]⟩ else none|_=>none
def L92:(e:List Ò)->Option {q:Ò × Pos // e=[.UnaryOp .USub q.1 q.2]}
 |[.UnaryOp .USub x p]=>some ⟨(x,p),rfl⟩|_=>none
def M02:(e:List Ò)->Option {q:Ò × Pos // e=[.UnaryOp .Not q.1 q.2]}
 |[.UnaryOp .Not x p]=>some ⟨(x,p),rfl⟩|_=>none
def M12:(e:List Ò)->Option {q:Ò × Ò × List Ò × Pos // e=[.BoolOp .And (q.1::q.2.1::q.2.2.1) q.2.2.2]}
 |[.BoolOp .And (l::r::v) p]=>some ⟨(l,r,v,p),rfl⟩|_=>none
def S62:(e:List Ò)->Option {q:Ò × Ò × List Ò × Pos // e=[.BoolOp .Or (q.1::q.2.1::q.2.2.1) q.2.2.2]}
 |[.BoolOp .Or (l::r::v) p]=>some ⟨(l,r,v,p),rfl⟩|_=>none
def M22:(e:List Ò)->Option {q:Ò × Ò × Ò × Pos // e=[.IfExp q.1 q.2.1 q.2.2.1 q.2.2.2]}
 |[.IfExp t x y p]=>some ⟨(t,x,y,p),rfl⟩|_=>none
def Y92:(e:List Ò)->Option {q:Ò × CmpOp × CmpOp × Ò × Ò × Pos // e=[.Compare q.1 [q.2.1,q.2.2.1] [q.2.2.2.1,q.2.2.2.2.1] q.2.2.2.2.2]}
 |[.Compare l [o,o2] [r,s] p]=>some ⟨(l,o,o2,r,s,p),rfl⟩|_=>none
def S72:(e:List Ò)->Option {q:Str × Pos × Ò × List Ò × Pos // e=[.Call (.Name q.1 q.2.1) (q.2.2.1::q.2.2.2.1) [] q.2.2.2.2]}
 |[.Call (.Name n q1) (x::l) [] p]=>some ⟨(n,q1,x,l,p),rfl⟩|_=>none
def M32:(e:List Ò)->Option {q:Str × Pos × Ò × Ò × Pos // e=[.Call (.Name q.1 q.2.1) [q.2.2.1,q.2.2.2.1] [] q.2.2.2.2]}
 |[.Call (.Name n q1) [x,ty] [] p]=>some ⟨(n,q1,x,ty,p),rfl⟩|_=>none
def Z02:(e:List Ò)->Option {q:Ò × Ò × Pos // e=[.Subscript q.1 q.2.1 q.2.2]}
 |[.Subscript v x p]=>some ⟨(v,x,p),rfl⟩|_=>none
def Z12:(e:List Ò)->Option {q:Ò × Option Ò × Option Ò × Pos × Pos // e=[.Subscript q.1 (.Slice q.2.1 q.2.2.1 none q.2.2.2.1) q.2.2.2.2]}
 |[.Subscript v (.Slice l h none q1) p]=>some ⟨(v,l,h,q1,p),rfl⟩|_=>none
def y52:(e:List Ò)->Option {q:Ò × Ò × Ò × List Ò × Á2 × Pos // e=[.ListComp q.1 [⟨q.2.1,q.2.2.1,q.2.2.2.1,0⟩] q.2.2.2.2.1 q.2.2.2.2.2]}
 |[.ListComp elt [⟨tg,iter,ifs,0⟩] csc p]=>some ⟨(elt,tg,iter,ifs,csc,p),rfl⟩|_=>none
def p82:(e:Ò)->Option {q:Str × Pos × Ò × Pos // e=.Call (.Name q.1 q.2.1) [q.2.2.1] [] q.2.2.2}
 |.Call (.Name n q1) [a] [] p=>some ⟨(n,q1,a,p),rfl⟩|_=>none
def p92:(e:Ò)->Option {q:Str × Pos × Ò × Ò × Pos // e=.Call (.Name q.1 q.2.1) [q.2.2.1,q.2.2.2.1] [] q.2.2.2.2}
 |.Call (.Name n q1) [a,b] [] p=>some ⟨(n,q1,a,b,p),rfl⟩|_=>none
def shN:(e:Ò)->Option {q:Str × Pos // e=.Name q.1 q.2}
 |.Name n p=>some ⟨(n,p),rfl⟩|_=>none
def S82:(e:Ò)->Option {q:Str × Pos × Str × Pos × Nat × Pos // e=.Tuple [.Name q.1 q.2.1,.Name q.2.2.1 q.2.2.2.1] q.2.2.2.2.1 q.2.2.2.2.2}
 |.Tuple [.Name a q1,.Name b q2] k p=>some ⟨(a,q1,b,q2,k,p),rfl⟩|_=>none
def Z22:(e:List Ò)->Option {q:Str × Pos × Int × Nat × Pos × Pos // e=[.Subscript (.Name q.1 q.2.1) (.Constant (.int q.2.2.1) q.2.2.2.1 q.2.2.2.2.1) q.2.2.2.2.2]}
 |[.Subscript (.Name n p) (.Constant (.int j) c q1) r]=>some ⟨(n,p,j,c,q1,r),rfl⟩|_=>none
def Z32:(e:List Ò)->Option {q:Str × Pos × Str × Pos × List Ò × Pos × Pos // e=[.Call (.Name q.1 q.2.1) [.Call (.Name q.2.2.1 q.2.2.2.1) q.2.2.2.2.1 [] q.2.2.2.2.2.1] [] q.2.2.2.2.2.2]}
 |[.Call (.Name n p) [.Call (.Name m q1) l [] r] [] t]=>some ⟨(n,p,m,q1,l,r,t),rfl⟩|_=>none
def tyE(sc:Á2):Ty->Ò->Bool
 |.seq=>λe=>opt (S82 e) λq=>q.1.1 == ("tuple":Str)&&q.1.2.2.1 == ("list":Str)&&glob sc "tuple"&&glob sc "list"|t=>λe=>opt (shN e) λq=>q.1.1 == Â2 (tyN t)&&glob sc (Â2 (tyN t))
def y62:D->Bool
 |.dct=>true|_=>false
def ifB:Ò->Bool
 |.IfExp ..=>true|_=>false
def mt:Bool->List (Str × List Str)->List (Str × Int)->Ex->Á2->List Str->List Ò->Bool
 |lm,fns,nums,.nil=>λ_ _ es=>es.isEmpty
 |lm,fns,nums,.cons a r=>λsc N es=>match es with
  |e::es=>noStar e&&!isL a&&isL r&&mt lm fns nums a sc N [e]&&mt lm fns nums r sc N es|[]=>false
 |lm,fns,nums,.var i=>λ_ N es=>opt (S52 es) λq=>N[i]? == some q.1.1&&c70 q.1.1|lm,fns,nums,.con d=>λ_ _ es=>(opt (L32 es) λq=>y42 q.1.1 d) || opt (L42 es) λ_=>y62 d|lm,fns,nums,.gint g i=>λsc _ es=>opt (S52 es) λq=>q.1.1 == g&&glob sc q.1.1&&nums.contains (g,i)|lm,fns,nums,.tup as=>λsc N es=>opt (L52 es) λq=>isL as&&mt lm fns nums as sc N q.1.1|lm,fns,nums,.lst as=>λsc N es=>opt (L62 es) λq=>isL as&&mt lm fns nums as sc N q.1.1|lm,fns,nums,.bin o a b=>λsc N es=>opt (L72 es) λq=>q.1.2.1 == opB o&&!isL a&&!isL b&&mt lm fns nums a sc N [q.1.1]&&mt lm fns nums b sc N [q.1.2.2.1]|lm,fns,nums,.cmp o a b=>λsc N es=>opt (L82 es) λq=>q.1.2.1 == opC o&&x70 q.1.2.2.1&&!isL a&&!isL b&&mt lm fns nums a sc N [q.1.1]&&mt lm fns nums b sc N [q.1.2.2.1]|lm,fns,nums,.neg a=>λsc N es=>opt (L92 es) λq=>!isL a&&mt lm fns nums a sc N [q.1.1]|lm,fns,nums,.not a=>λsc N es=>opt (M02 es) λq=>!isL a&&!ifB q.1.1&&mt lm fns nums a sc N [q.1.1]|lm,fns,nums,.and a b=>λsc N es=>opt (M12 es) λq=>!isL a&&!isL b&&!ifB q.1.1&&mt lm fns nums a sc N [q.1.1]&&(if q.1.2.2.1.isEmpty then !ifB q.1.2.1&&mt lm fns nums b sc N [q.1.2.1] else mt lm fns nums b sc N [.BoolOp .And (q.1.2.1::q.1.2.2.1) q.1.2.2.2])|lm,fns,nums,.or a b=>λsc N es=>opt (S62 es) λq=>!isL a&&!isL b&&!ifB q.1.1&&mt lm fns nums a sc N [q.1.1]&&(if q.1.2.2.1.isEmpty then !ifB q.1.2.1&&mt lm fns nums b sc N [q.1.2.1] else mt lm fns nums b sc N [.BoolOp .Or (q.1.2.1::q.1.2.2.1) q.1.2.2.2])|lm,fns,nums,.orT a b=>λsc N es=>opt (S62 es) λq=>!isL a&&!isL b&&q.1.2.2.1.isEmpty&&mt lm fns nums a sc N [q.1.1]&&mt lm fns nums b sc N [q.1.2.1]|lm,fns,nums,.ite c a b=>λsc N es=>opt (M22 es) λq=>!isL c&&!isL a&&!isL b&&!ifB q.1.1&&mt lm fns nums c sc N [q.1.1]&&mt lm fns nums a sc N [q.1.2.1]&&mt lm fns nums b sc N [q.1.2.2.1]|lm,fns,nums,.ch o o' a b c=>λsc N es=>opt (Y92 es) λq=>q.1.2.1 == opC o&&q.1.2.2.1 == opC o'&&x70 q.1.2.2.2.2.1&&!isL a&&!isL b&&!isL c&&mt lm fns nums a sc N [q.1.1]&&mt lm fns nums b sc N [q.1.2.2.2.1]&&mt lm fns nums c sc N [q.1.2.2.2.2.1]|lm,fns,nums,.bf f as=>λsc N es=>opt (S72 es) λq=>served f&&q.1.1 == (bfN f).1&&glob sc q.1.1&&isL as&&mt lm fns nums as sc N (q.1.2.2.1::q.1.2.2.2.1)|lm,fns,nums,.isi t a=>λsc N es=>opt (M32 es) λq=>q.1.1 == ("isinstance":Str)&&glob sc q.1.1&&noStar q.1.2.2.1&&!isL a&&mt lm fns nums a sc N [q.1.2.2.1]&&tyE sc t q.1.2.2.2.1|lm,fns,nums,.idx a i=>λsc N es=>opt (Z02 es) λq=>e41 q.1.2.1&&!isL a&&!isL i&&mt lm fns nums a sc N [q.1.1]&&mt lm fns nums i sc N [q.1.2.1]|lm,fns,nums,.sl a lo hi=>λsc N es=>opt (Z12 es) λq=>!isL a&&isL lo&&isL hi&&mt lm fns nums a sc N [q.1.1]&&mt lm fns nums lo sc N q.1.2.1.toList&&mt lm fns nums hi sc N q.1.2.2.1.toList|lm,fns,nums,.call f as=>λsc N es=>opt (S72 es) λq=>(opt fns[f]? λp=>p.1 == q.1.1&&p.2.length == q.1.2.2.2.1.length + 1)&&glob sc q.1.1&&isL as&&mt lm fns nums as sc N (q.1.2.2.1::q.1.2.2.2.1)
 |lm,fns,nums,.comp own capt p it src cond el=>λsc N es=>opt (y52 es) λq =>
   (d60 q.1.2.1).length == own&&(f60 N capt).length == capt.length&&X10 q.1.2.2.2.2.1 sc N (d60 q.1.2.1) (f60 N capt)&&l50 (d60 q.1.2.1++(f60 N capt).map (·.1)) (λx=>(d60 q.1.2.1).contains x) p q.1.2.1&&isL src&&!isL el&&isL cond&&q.1.2.2.2.1.length<=1&&noStar q.1.1&&x70 q.1.2.2.1 &&
    q.1.2.2.2.1.all (λc=>!ifB c) &&
    (match it with
    |.seq=>mt lm fns nums src sc N [q.1.2.2.1]|.rng1=>opt (p82 q.1.2.2.1) λr=>r.1.1 == ("range":Str)&&glob sc r.1.1&&mt lm fns nums src sc N [r.1.2.2.1]|.rng2=>opt (p92 q.1.2.2.1) λr=>r.1.1 == ("range":Str)&&glob sc r.1.1&&mt lm fns nums src sc N [r.1.2.2.1,r.1.2.2.2.1]|.zip=>opt (p92 q.1.2.2.1) λr=>r.1.1 == ("zip":Str)&&glob sc r.1.1&&n40 q.1.2.1&&mt lm fns nums src sc N [r.1.2.2.1,r.1.2.2.2.1]|.enum=>opt (p82 q.1.2.2.1) λr=>r.1.1 == ("enumerate":Str)&&glob sc r.1.1&&n40 q.1.2.1&&mt lm fns nums src sc N [r.1.2.2.1]
    )&&mt false fns nums cond q.1.2.2.2.2.1 (d60 q.1.2.1++(f60 N capt).map (·.1)) q.1.2.2.2.1&&mt false fns nums el q.1.2.2.2.2.1 (d60 q.1.2.1++(f60 N capt).map (·.1)) [q.1.1]
 |lm,fns,nums,.lrng b as=>λsc N es=>opt (Z32 es) λq=>q.1.1 == lrN b&&q.1.2.2.1 == ("range":Str)&&glob sc (lrN b)&&glob sc "range"&&isL as&&decide (1<=q.1.2.2.2.2.1.length/\q.1.2.2.2.2.1.length<=2)&&mt lm fns nums as sc N q.1.2.2.2.2.1|lm,fns,nums,.zget i k=>λ_ N es=>opt (Z22 es) λq=>N[i]? == some q.1.1&&c70 q.1.1&&q.1.2.2.1 == (k:Int)|lm,fns,nums,.dkeys a=>λsc N es=>opt (Y72 es) λq=>X10 q.1.2.2.2.2.2.2.1 sc N [q.1.1] []&&c70 q.1.1&&x70 q.1.2.2.2.2.2.1&&!isL a&&mt lm fns nums a sc N [q.1.2.2.2.2.2.1]|lm,fns,nums,.memk o a i=>λsc N es=>opt (Y82 o es) λq=>N[i]? == some q.1.2.1&&c70 q.1.2.1&&!isL a&&mt lm fns nums a sc N [q.1.1]
theorem f00{sc:Á2}{x:Str}(h:glob sc x=true):sc.names.lookup x=some .globalImplicit/\(x == ("__debug__":Str))=false/\x≠"__name__":=by
 unfold glob at h;simp only[À,á,beq_iff_eq] at h;refine⟨h.1.1,h.1.2,λe=>?_⟩;subst e;simp at h
section
variable {lm:Bool}{X:Cx}{G:Gs}{E:XK}{N:List Str}{sc:Á2}
theorem y72{K:Â}{zA:Option È}{H0 H:Hp}{s:S}{v:V}(h:RvP K zA H s v):RvS K zA H0 H (plS s) v:=by cases s <;> exact h
theorem i32(h:(!ifB e)=true):∀ t a b p,e≠.IfExp t a b p:=by
 intro t a b p he;subst he;cases h
theorem a90(hL:isL x=false)(h:Good X G E x [e]):b00 X G E x e:=by
 cases x with
 |nil=>cases hL
 |cons _ _=>cases hL
 |_ =>
  obtain⟨e',h1,h2⟩:=(show ∃ e',[e]=[e']/\b00 X G E _ e' from h);cases h1;exact h2
theorem c40(hL:isL x=false)(h:b00 X G E x e):Good X G E x [e]:=by
 cases x with
 |nil=>cases hL
 |cons _ _=>cases hL
 |_=>exact⟨e,rfl,h⟩
theorem h30(po:e31 X.K G zA E H Q r):∀ c z1,r=.er c z1->EPost G zA E c z1 H:=λc z1 e=>by subst e;exact po
theorem X20(po:Q51 G zA E H Q r):∀ c z1,r=.er c z1->EPost G zA E c z1 H:=λc z1 e=>by subst e;exact po
theorem M42(x:XI lm X G E N sc){i:Nat}{n:Str}{pos:Pos}(h1:N[i]?=some n)(h2:c70 n=true):b00 X G E (.var i) (.Name n pos):=by
 unfold c70 at h2;simp only[À,á] at h2;refine b20 (PE.imp (w90 (i:=i) (by rw[x.hN];exact h1) (x.vis n (ô h1)) h2.1 h2.2) λσ H Q q=>?_) rfl
 obtain⟨zA,ρ,z,r,rel,st,e,po⟩:=q;have e':(match ρ[i]? with | some (some s)=>M.ret [plS s] | _=>M.no) z=some r:=e
 cases hs:ρ[i]? with
 |none=>rw[hs] at e';cases e'
 |some o =>
  cases o with
  |none=>rw[hs] at e';cases e'
  |some s =>
   rw[hs] at e';cases e';obtain⟨v,hv,rv⟩:=rel i s hs;obtain⟨s',e',po⟩:=po;cases e';exact⟨v,hv,po v H Ext.refl st (y72 rv)⟩
theorem M52(h:y42 c d=true):b00 X G E (.con d) (.Constant c j pos):=by
 refine b20 ?_ rfl;have fin:∀ {v:V},(∀ H,Hd X.K H d v)->∀ σ H Q,tI X.K G E (.con d) σ H Q->tC v σ H Q:=λ{v} hd σ H Q q=>by
  obtain⟨zA,ρ,z,r,rel,st,e,po⟩:=q;cases e;obtain⟨s',e',po⟩:=po;cases e';exact po v H Ext.refl st (K71 (hd _))
 cases c with
 |int i=>cases d <;> first | (simp only[y42,beq_iff_eq] at h;subst h;exact PE.imp u91 (fin λH=>Hd.int)) | (cases h)
 |bool b=>cases d <;> first | (simp only[y42,beq_iff_eq] at h;subst h;exact PE.imp H02 (fin λH=>Hd.bl)) | (cases h)
 |str y=>cases d <;> first | (simp only[y42,beq_iff_eq] at h;subst h;exact PE.imp V41 (fin λH=>Hd.str)) | (cases h)
 |none=>cases d <;> first | exact PE.imp r12 (fin λH=>Hd.non) | (cases h)
 |_=>cases h
theorem M62:b00 X G E (.con .dct) (.Dict [] [] pos):=by
 refine b20 (PE.imp f02 λσ H Q q=>?_) rfl;obtain⟨zA,ρ,z,r,rel,st,e,po⟩:=q;cases e;obtain⟨s',e',po⟩:=po;cases e';intro p hp;refine po _ _ (Ext.of (a30.new _ hp)) (st.same (a30.new _ hp)) (K71 ?_);unfold Hd;exact⟨p,[],rfl,e00 d10 (st.j41 hp)⟩
theorem y82(x:XI lm X G E N sc){g:Str}{i:Int}{pos:Pos}(h1:glob sc g=true)(h2:(g,i)∈G.nums):b00 X G E (.gint g i) (.Name g pos):=by
 obtain⟨k1,k2,_⟩:=f00 h1;obtain⟨t,ht⟩:=x.num _ h2;refine b20 (PE.imp (b32 (v:=.int i) (x.glb g k1) ht ⟨t,rfl⟩ k2) λσ H Q q=>?_) rfl;obtain⟨zA,ρ,z,r,rel,st,e,po⟩:=q;cases e;obtain⟨s',e',po⟩:=po;cases e';exact po _ H Ext.refl st h50
theorem Q00{K:Â}{zA:Option È}{H0 H:Hp}{l:List S}{vs:List V}{ds:List D}(h:Ä5 (RvS K zA H0 H) l vs)(e:plA l=some ds):HdA K (hz zA H) ds vs:=RvA.ds (Ä5.p32 h λ_ _ q=>q.pl) e
theorem M72{as:Ex}{l:List Ò}{k:Nat}{pos:Pos}(hL:isL as=true)(g:Good X G E as l):b00 X G E (.tup as) (.Tuple l k pos):=by
 refine b20 (PE.imp (W01 (g.args hL).1) λσ H Q q=>?_) rfl;obtain⟨zA,ρ,z,r,rel,st,e,po⟩:=q;refine s31 rel st e (h30 po) λl z1 e1 vs H1 x1 st1 rvs=>?_;obtain⟨ds,hd,e2⟩:=M.a20 e1;split at e2
 ·rename_i hm;cases e2;obtain⟨s',e',po⟩:=po;cases e';have h:=Q00 rvs hd;exact⟨g60 (by rw[h.length];exact hm),λp hp=>po _ _ (x1.trans (Ext.of (a30.new _ hp))) (st1.same (a30.new _ hp)) (K71 (Hd.tup ((st1.same (a30.new _ hp)).W91 (SqT.of d10)) (h.same (m30 (a30.new _ hp)))))⟩
 ·cases e2
theorem M82{as:Ex}{l:List Ò}{pos:Pos}(hL:isL as=true)(g:Good X G E as l):b00 X G E (.lst as) (.List l pos):=by
 refine b20 (PE.imp (t62 (g.args hL).1) λσ H Q q=>?_) rfl;obtain⟨zA,ρ,z,r,rel,st,e,po⟩:=q;refine s31 rel st e (h30 po) λl z1 e1 vs H1 x1 st1 rvs=>?_;obtain⟨ds,hd,e2⟩:=M.a20 e1;split at e2
 ·rename_i hm;cases e2;obtain⟨s',e',po⟩:=po;cases e';have h:=Q00 rvs hd;exact⟨g60 (by rw[h.length];exact hm),λp hp=>po _ _ (x1.trans (Ext.of (a30.new _ hp))) (st1.same (a30.new _ hp)) ((u20 st1 h hp).from x1)⟩
 ·cases e2
theorem j91{α:Type}{a b:Ex}{k:D->D->M α}{zA:Option È}{ρ:Env}{z:Z}{r:R α}{σ:L2.St}{H:Hp}{Q:V->V->Hp->Prop}(rel:E60 X.K zA H ρ σ)(st:f20 zA z H)
  (h:M.bind (ev G.F a ρ) (λx=>M.bind (M.of (pl x)) λx=>M.bind (ev G.F b ρ) λy=>M.bind (M.of (pl y)) λy=>k x y) z=some r) (her:∀ c z1,r=.er c z1->EPost G zA E c z1 H)
  (hk:∀ dx dy z2 v w H2,k dx dy z2=some r->Ext zA H H2->f20 zA z2 H2->Hd X.K (hz zA H2) dx v->Hd X.K (hz zA H2) dy w->Q v w H2) :
  tI X.K G E a σ H λv H1=>tI X.K G E b σ H1 λw H2=>Q v w H2:=by
 refine l40 rel st h her λl z1 e1=>?_;obtain⟨dx,p1,e2⟩:=M.a20 e1;obtain⟨s1,rfl,q1⟩:=g50 p1;refine⟨s1,rfl,λv H1 x1 st1 rv=>?_⟩;refine l40 (rel.mono x1) st1 e2 (λc z2 q=>(her c z2 q).mono x1) λm z2 e3=>?_;obtain⟨dy,p2,e4⟩:=M.a20 e3;obtain⟨s2,rfl,q2⟩:=g50 p2;exact⟨s2,rfl,λw H2 x2 st2 rw'=>hk dx dy z2 v w H2 e4 (x1.trans x2) st2 ((rv.pl.mono x2).d_ q1) (rw'.pl.d_ q2)⟩
theorem f70{zA:Option È}{H H2:Hp}{z2:Z}{s:S}{Q:VK}(po:e31 X.K G zA E H Q (.ok [s] z2))(x:Ext zA H H2)(st:f20 zA z2 H2):∀ v H',a30 H2 H'->RvS X.K zA H2 H' s v->Q v H':=λv H' sm rv=>by
 obtain⟨s',e',po⟩:=po;cases e';exact po v H' (x.trans (Ext.of sm)) (st.same sm) (rv.from x)
theorem M92(ga:b00 X G E a l)(gb:b00 X G E b r):b00 X G E (.bin o a b) (.BinOp l (opB o) r pos):=by
 refine b20 (PE.imp (I22 (opD o) ga.pe gb.pe) λσ H Q q=>?_) rfl;obtain⟨zA,ρ,z,rr,rel,st,e,po⟩:=q;refine j91 rel st e (h30 po) λdx dy z2 v w H2 e2 x2 st2 h1 h2=>?_;obtain⟨s,hs,e3⟩:=M.a20 e2;cases e3;exact⟨zA,z2,dx,dy,s,st2,h1,h2,hs,f70 po x2 st2⟩
theorem B31(po:Q51 G zA E H Q r):e31 X.K G zA E H (λx H'=>∃ k,x=.bl k/\Q k H') r:=by
 cases r with
 |er c z1=>exact po
 |ok l z1 =>
  obtain⟨b,rfl,po⟩:=po;exact⟨_,rfl,λv H' ex st' rv=>⟨b,Hd.bl_ (show Hd X.K (hz zA H') (.bl b) v from rv),po H' ex st'⟩⟩
theorem N02(x:XI lm X G E N sc)(hs:x70 r=true)(ga:b00 X G E a l)(gb:b00 X G E b r):b00 X G E (.cmp o a b) (.Compare l [opC o] [r] pos):=by
 have key:∀ σ H Q,tI X.K G E (.cmp o a b) σ H Q->tOp (rD2 X.K λa b=>(E40 o a b).map λc=>.d (.bl c)) (tI X.K G E a) (tI X.K G E b) σ H Q:=λσ H Q q=>by
  obtain⟨zA,ρ,z,rr,rel,st,e,po⟩:=q;refine j91 rel st e (h30 po) λdx dy z2 v w H2 e2 x2 st2 h1 h2=>?_;obtain⟨c,hc,e3⟩:=M.a20 e2;cases e3;exact⟨zA,z2,dx,dy,_,st2,h1,h2,by show Í3 _ (E40 o dx dy)=_;rw[hc];rfl,f70 po x2 st2⟩
 refine⟨PE.imp (v41 (p72 x.room.units o) ga.pe gb.pe (B21 hs _)) key,λ_=>PT.imp (v51 (p72 x.room.units o) ga.pe gb.pe (B21 hs _)) λσ H Q q=>?_,λop vs p h=>by cases h⟩
 obtain⟨zA,ρ,z,rr,rel,st,e,po⟩:=q;exact key σ H _ ⟨zA,ρ,z,rr,rel,st,e,B31 po⟩
theorem N12(ga:b00 X G E a l):b00 X G E (.neg a) (.UnaryOp .USub l pos):=by
 refine b20 (PE.imp (I32 t32 ga.pe) λσ H Q q=>?_) rfl;obtain⟨zA,ρ,z,rr,rel,st,e,po⟩:=q;refine l40 rel st e (h30 po) λm z1 e1=>?_;obtain⟨i,p1,e2⟩:=M.a20 e1;obtain⟨d,p2,p3⟩:=Ï.mp p1;obtain⟨s1,rfl,q1⟩:=g50 p2;cases e2;refine⟨s1,rfl,λv H1 x1 st1 rv=>?_⟩;have hd:=rv.pl.d_ q1;cases d with
 |int j =>
  cases p3;exact⟨i,hd.j60,f70 po x1 st1 _ _ (a30.refl H1) h50⟩
 |_=>cases p3
theorem N22(ga:b00 X G E a l)(hn:∀ t x y p,l≠.IfExp t x y p):b00 X G E (.not a) (.UnaryOp .Not l pos):=by
 refine⟨PE.imp (r82 ga.pe) λσ H Q q=>?_,λ_=>PT.imp (r52 (ga.pt hn)) λσ H Q q=>?_,λop vs p h=>by cases h⟩
 ·obtain⟨zA,ρ,z,rr,rel,st,e,po⟩:=q;refine l40 rel st e (h30 po) λm z1 e1=>?_;obtain⟨b,p1,e2⟩:=M.a20 e1;obtain⟨d,p2,p3⟩:=Ï.mp p1;obtain⟨s1,rfl,q1⟩:=g50 p2;cases e2;refine⟨s1,rfl,λv H1 x1 st1 rv=>?_⟩;have hd:=rv.pl.d_ q1;cases d with
  |bl c =>
   cases p3;exact⟨b,hd.bl_,f70 po x1 st1 _ _ (a30.refl H1) i50⟩
  |_=>cases p3
 ·obtain⟨zA,ρ,z,rr,rel,st,e,po⟩:=q;refine X00 rel st e (X20 po) λb z1 e1 H1 x1 st1=>?_;cases e1;obtain⟨b',e',po⟩:=po;cases e';exact po H1 x1 st1
end
end Q
namespace Q
open PySem L2 PySem.Spec PyProof.Rows
variable [TB:Tb]
section
variable {lm:Bool}{X:Cx}{G:Gs}{E:XK}{N:List Str}{sc:Á2}
theorem Q10(rel:E60 X.K zA H ρ σ)(st:f20 zA z H)
  (h:M.bind (ev G.F a ρ) (λx=>M.bind (M.of ((pl x).bind asB)) k) z=some r) (her:∀ c z1,r=.er c z1->EPost G zA E c z1 H)
  (hok:∀ b z1,k b z1=some r->∀ H1,Ext zA H H1->f20 zA z1 H1->Q' (.bl b) H1):tI X.K G E a σ H Q':=by
 refine l40 rel st h her λm z1 e1=>?_;obtain⟨b,p1,e2⟩:=M.a20 e1;obtain⟨d,p2,p3⟩:=Ï.mp p1;obtain⟨s1,rfl,q1⟩:=g50 p2;refine⟨s1,rfl,λv H1 x1 st1 rv=>?_⟩;have hd:=rv.pl.d_ q1;cases d with
 |bl c =>
  cases p3;rw[hd.bl_];exact hok b z1 e2 H1 x1 st1
 |_=>cases p3
theorem N32(ga:b00 X G E a l)(hl:∀ t x y p,l≠.IfExp t x y p)
  (gb:b00 X G E b (.BoolOp .And (r::vs) p)):b00 X G E (.and a b) (.BoolOp .And (l::r::vs) p):=by
 have pw:PW X (.BoolOp .And (l::r::vs) p) (tT X.K G E (.and a b)):=by
  refine PW.imp (r42 (ga.pt hl) (gb.pw _ _ _ rfl)) λσ H Q q=>?_;obtain⟨zA,ρ,z,rr,rel,st,e,po⟩:=q;refine X00 rel st e (X20 po) λc z1 e1 H1 x1 st1=>?_;cases c with
  |true =>
   rw[if_pos rfl];rw[if_pos rfl] at e1;refine X00 (rel.mono x1) st1 e1 (λc z2 q=>((X20 po) c z2 q).mono x1) λc z2 e2 H2 x2 st2=>?_;cases e2;obtain⟨b',e',po⟩:=po;cases e';exact po H2 (x1.trans x2) st2
  |false =>
   rw[if_neg Í];rw[if_neg Í] at e1;cases e1;obtain⟨b',e',po⟩:=po;cases e';exact po H1 x1 st1
 refine⟨PE.imp (r72 ga.pe gb.pe) λσ H Q q=>?_,λ_=>pw.pt,λop vs p h=>pw⟩;obtain⟨zA,ρ,z,rr,rel,st,e,po⟩:=q;refine Q10 rel st e (h30 po) λc z1 e1 H1 x1 st1=>⟨c,rfl,?_⟩;cases c with
 |true =>
  rw[if_pos rfl];rw[if_pos rfl] at e1;refine Q10 (rel.mono x1) st1 e1 (λc z2 q=>((h30 po) c z2 q).mono x1) λc z2 e2 H2 x2 st2=>?_;cases e2;exact f70 po (x1.trans x2) st2 _ _ (a30.refl H2) i50
 |false =>
  rw[if_neg Í];rw[if_neg Í] at e1;cases e1;exact f70 po x1 st1 _ _ (a30.refl H1) i50
theorem Z42(ga:b00 X G E a l)(hl:∀ t x y p,l≠.IfExp t x y p)
  (gb:b00 X G E b (.BoolOp .Or (r::vs) p)):b00 X G E (.or a b) (.BoolOp .Or (l::r::vs) p):=by
 have pw:PW X (.BoolOp .Or (l::r::vs) p) (tT X.K G E (.or a b)):=by
  refine PW.imp (H12 (ga.pt hl) (gb.pw _ _ _ rfl)) λσ H Q q=>?_;obtain⟨zA,ρ,z,rr,rel,st,e,po⟩:=q;refine X00 rel st e (X20 po) λc z1 e1 H1 x1 st1=>?_;cases c with
  |false =>
   rw[if_neg Í];rw[if_neg Í] at e1;refine X00 (rel.mono x1) st1 e1 (λc z2 q=>((X20 po) c z2 q).mono x1) λc z2 e2 H2 x2 st2=>?_;cases e2;obtain⟨b',e',po⟩:=po;cases e';exact po H2 (x1.trans x2) st2
  |true =>
   rw[if_pos rfl];rw[if_pos rfl] at e1;cases e1;obtain⟨b',e',po⟩:=po;cases e';exact po H1 x1 st1
 refine⟨PE.imp (H42 ga.pe gb.pe) λσ H Q q=>?_,λ_=>pw.pt,λop vs p h=>pw⟩;obtain⟨zA,ρ,z,rr,rel,st,e,po⟩:=q;refine Q10 rel st e (h30 po) λc z1 e1 H1 x1 st1=>⟨c,rfl,?_⟩;cases c with
 |false =>
  rw[if_neg Í];rw[if_neg Í] at e1;refine Q10 (rel.mono x1) st1 e1 (λc z2 q=>((h30 po) c z2 q).mono x1) λc z2 e2 H2 x2 st2=>?_;cases e2;exact f70 po (x1.trans x2) st2 _ _ (a30.refl H2) i50
 |true =>
  rw[if_pos rfl];rw[if_pos rfl] at e1;cases e1;exact f70 po x1 st1 _ _ (a30.refl H1) i50
theorem y92(gb:b00 X G E b r)(hr:∀ t x y p,r≠.IfExp t x y p):b00 X G E b (.BoolOp op [r] p):=by
 have pw:PW X (.BoolOp op [r] p) (tT X.K G E b):=by
  cases op with
  |And=>exact b42 (gb.pt hr)|Or=>exact r32 (gb.pt hr)
 exact⟨r62 gb.pe,λ_=>pw.pt,λ_ _ _ _=>pw⟩
theorem e31.z02(po:e31 X.K G zA E H Q rr)(x1:Ext zA H H1):e31 X.K G zA E H1 Q rr:=by
 cases rr with
 |er c z1=>exact EPost.mono po x1
 |ok l z2 =>
  obtain⟨s,e',po⟩:=po;exact⟨s,e',λv H' x' st' rv=>po v H' (x1.trans x') st' (rv.from x1)⟩
theorem X30{α:Type}{m:M α}{z:Z}{r:R α}(h:M.calm m z=some r):m z=some r/\∃ a z1,r=.ok a z1:=by
 unfold M.calm at h;split at h
 ·rename_i a z1 e;cases h;exact⟨e,a,z1,rfl⟩
 ·cases h
theorem z12(ha:PE X a ta)(hb:PE X b tb):PE X (.BoolOp .Or [a,b] pos) (λσ H Q=>ta σ H λx H1=>∃ t xs,x=.ref t/\SqT X.K H1 t xs/\if xs.isEmpty=true then tb σ H1 Q else Q x H1):=by
 intro pins s σ H Q I h;refine BoolOp_or (thn (ha pins s σ H _ I h) λv s1 ⟨x,H1,I1,r1,q1⟩=>?_);obtain⟨t,xs,rfl,hq,q1⟩:=q1;obtain⟨its,hv,ht,hl⟩:=I1.tuple hq;have hlen:xs.length=its.length:=hv.length;cases r1;refine truthy_tuple ht (by rw[Ö,← hlen];have:=Â7;omega) ?_
 cases xs with
 |nil =>
  cases its with
  |nil=>exact BoolOp_one (hb pins _ σ H1 Q (I1.tok _) q1)|cons _ _=>cases hlen
 |cons y r =>
  cases its with
  |nil=>cases hlen
  |cons _ _=>exact⟨.ref t,H1,I1.tok _,rfl,q1⟩
theorem X71(h:(pl y).bind v62=some l):∃ s,y=[s]/\plD s=some (.tup l):=by
 obtain⟨d,p2,p3⟩:=Ï.mp h;obtain⟨s1,rfl,q1⟩:=g50 p2;cases d with
 |tup l=>cases p3;exact⟨s1,rfl,q1⟩
 |_=>cases p3
theorem N42(ga:b00 X G E a l)(gb:b00 X G E b r):b00 X G E (.orT a b) (.BoolOp .Or [l,r] p):=by
 have no:∀ {zA:Option È}{ρ:Env}{z:Z}{rr:R (List S)}{H:Hp}{Q:Bool->Hp->Prop},ev G.F (.orT a b) ρ z=some rr->Q51 G zA E H Q rr->False:=λe po=>by
  obtain⟨e,u,z1,rfl⟩:=X30 e;obtain⟨c,rfl,_⟩:=po;rcases M.bind_some e with ⟨m,z2,_,e2⟩ | ⟨c,z2,_,e2⟩
  ·obtain⟨ds,_,e3⟩:=M.a20 e2;split at e3
   ·rcases M.bind_some e3 with ⟨m,z2,_,e2⟩ | ⟨c,z2,_,e2⟩
    ·obtain⟨ds,_,e3⟩:=M.a20 e2;cases e3
    ·cases e2
   ·cases e3
  ·cases e2
 refine⟨PE.imp (z12 ga.pe gb.pe) λσ H Q q=>?_,λ_ pins s σ H Q I ⟨_,_,_,_,_,_,e,po⟩=>(no e po).elim,λ_ _ _ _ wh pins s σ H Q I ⟨_,_,_,_,_,_,e,po⟩=>(no e po).elim⟩;obtain⟨zA,ρ,z,rr,rel,st,e,po⟩:=q;obtain⟨e,u,z1,rfl⟩:=X30 e;refine l40 rel st e (h30 po) λm z1 e1=>?_;obtain⟨ds,p1,e2⟩:=M.a20 e1;obtain⟨s1,rfl,q1⟩:=X71 p1;refine⟨s1,rfl,λv H1 x1 st1 rv=>?_⟩;have hd:=rv.pl.d_ q1;obtain⟨t,xs,rfl,h1,h2⟩:=hd.E10;refine⟨t,xs,rfl,(a10 zA H1).sqT h1,?_⟩;cases ds with
 |nil =>
  cases h2.g40;have po:=po.z02 x1;refine l40 (rel.mono x1) st1 e2 (h30 po) λm z1 e1=>?_;obtain⟨ds,p1,e2⟩:=M.a20 e1;obtain⟨s1,rfl,q1⟩:=X71 p1;cases e2;exact⟨s1,rfl,λv H2 x2 st2 rv=>f70 po x2 st2 _ _ (a30.refl H2) (rv.pl.d_ q1)⟩
 |cons y r =>
  obtain⟨u,w,rfl,_⟩:=h2.c50;cases e2;exact f70 po x1 st1 _ _ (a30.refl H1) hd
theorem N52(gc:b00 X G E c t)(ht:∀ a b d p,t≠.IfExp a b d p)(ga:b00 X G E a x)(gb:b00 X G E b y):b00 X G E (.ite c a b) (.IfExp t x y p):=by
 refine⟨PE.imp (L21 (gc.pt ht) ga.pe gb.pe) λσ H Q q=>?_,λh=>absurd rfl (h t x y p),λop vs p h=>by cases h⟩
 obtain⟨zA,ρ,z,rr,rel,st,e,po⟩:=q;refine X00 rel st e (h30 po) λk z1 e1 H1 x1 st1=>?_;have po1:=po.z02 x1;cases k with
 |true =>
  rw[if_pos rfl];rw[if_pos rfl] at e1;exact⟨zA,ρ,z1,rr,rel.mono x1,st1,e1,po1⟩
 |false =>
  rw[if_neg Í];rw[if_neg Í] at e1;exact⟨zA,ρ,z1,rr,rel.mono x1,st1,e1,po1⟩
theorem Z52(x:XI lm X G E N sc)(hs:x70 s=true)(ga:b00 X G E a l)(gb:b00 X G E b r)(gc:b00 X G E c s):b00 X G E (.ch o o' a b c) (.Compare l [opC o,opC o'] [r,s] pos):=by
 have hm:lastMarks [opC o,opC o'] [r,s]=false:=B21 hs _;have key:∀ σ H Q,tI X.K G E (.ch o o' a b c) σ H Q->v61 (rD2 X.K λa b=>(E40 o a b).map λc=>.d (.bl c)) (rD2 X.K λa b=>(E40 o' a b).map λc=>.d (.bl c)) (tI X.K G E a) (tI X.K G E b) (tI X.K G E c) σ H Q:=λσ H Q q=>by
  obtain⟨zA,ρ,z,rr,rel,st,e,po⟩:=q;refine j91 rel st e (h30 po) λdx dy z2 v w H2 e2 x2 st2 h1 h2=>?_;obtain⟨k,hk,e3⟩:=M.a20 e2;refine⟨zA,z2,dx,dy,.d (.bl k),st2,h1,h2,by show Í3 _ (E40 o dx dy)=_;rw[hk];rfl,λv3 H3 sm rv=>⟨k,Hd.bl_ (show Hd X.K (hz zA H3) (.bl k) v3 from rv),?_⟩⟩
  have x3:=x2.trans (Ext.of sm);have st3:=st2.same sm;cases k with
  |true =>
   rw[if_pos rfl];rw[if_pos rfl] at e3;refine l40 (rel.mono x3) st3 e3 (λc z2 q=>((h30 po) c z2 q).mono x3) λm z4 e4=>?_;obtain⟨dw,p1,e5⟩:=M.a20 e4;obtain⟨k',hk',e6⟩:=M.a20 e5;obtain⟨s1,rfl,q1⟩:=g50 p1;cases e6;refine⟨s1,rfl,λv4 H4 x4 st4 rv4=>?_⟩;exact⟨zA,z4,dy,dw,_,st4,(h2.same (a30.trans (m30 sm) x4)),rv4.pl.d_ q1,by show Í3 _ (E40 o' dy dw)=_;rw[hk'];rfl,f70 po (x3.trans x4) st4⟩
  |false =>
   rw[if_neg Í];rw[if_neg Í] at e3;cases e3;exact f70 po x3 st3 _ _ (a30.refl H3) i50
 refine⟨PE.imp (L61 (p72 x.room.units o) (p72 x.room.units o') ga.pe gb.pe gc.pe hm) key,λ_=>PT.imp (L71 (p72 x.room.units o) (p72 x.room.units o') ga.pe gb.pe gc.pe hm) λσ H Q q=>?_,λop vs p h=>by cases h⟩
 obtain⟨zA,ρ,z,rr,rel,st,e,po⟩:=q;exact key σ H _ ⟨zA,ρ,z,rr,rel,st,e,B31 po⟩
theorem X81:∀ σ H Q,tI X.K G E (.bf f as) σ H Q->tCB (rDn X.K (bfD f)) (tA X.K G E as) σ H Q:=λσ H Q q=>by
 obtain⟨zA,ρ,z,rr,rel,st,e,po⟩:=q;refine s31 rel st e (h30 po) λl z1 e1 vs H1 x1 st1 rvs=>?_;obtain⟨ds,hd,e2⟩:=M.a20 e1;obtain⟨s,hs,e3⟩:=M.a20 e2;cases e3;exact⟨zA,z1,ds,s,st1,Q00 rvs hd,hs,f70 po x1 st1⟩
theorem X40(x:XI lm X G E N sc){f:Bf}{as:Ex}{n:Str}{id:String}{e:Ò}{l:List Ò}{p pos:Pos}(hc:h00 X (.builtin id) (rDn X.K (bfD f)))(hb:n∈i22)(hv:î n=some (.builtin id))(hg:glob sc n=true)(hL:isL as=true)(g:Good X G E as (e::l)):b00 X G E (.bf f as) (.Call (.Name n p) (e::l) [] pos):=by
 obtain⟨k1,k2,k3⟩:=f00 hg;obtain⟨ha,hs⟩:=g.args hL;rw[Ã6,À] at hs;exact b20 (PE.imp (N20 hc (x.glb n k1) (x.blt n hb) hv ha k3 k2 (d30 hs.1 l X.env) (x60 X.env pos hs.2)) X81) rfl
theorem i42(x:XI lm X G E N sc){f:Bf}{as:Ex}{n:Str}{T:String}{e:Ò}{l:List Ò}{p pos:Pos}(hc:h00 X (.type T) (rDn X.K (bfD f)))(hb:n∈i22)(hv:î n=some (.type T))(hg:glob sc n=true)(hL:isL as=true)(g:Good X G E as (e::l)):b00 X G E (.bf f as) (.Call (.Name n p) (e::l) [] pos):=by
 obtain⟨k1,k2,k3⟩:=f00 hg;obtain⟨ha,hs⟩:=g.args hL;rw[Ã6,À] at hs;exact b20 (PE.imp (w01 hc (x.glb n k1) (x.blt n hb) hv ha k3 k2 (d30 hs.1 l X.env) (x60 X.env pos hs.2)) X81) rfl
theorem z22:î "len"=some (.builtin "len"):=by decide +kernel
theorem B41:î "sorted"=some (.builtin "sorted"):=by decide +kernel
theorem z32:î "all"=some (.builtin "all"):=by decide +kernel
theorem z42:î "any"=some (.builtin "any"):=by decide +kernel
theorem z52:î "sum"=some (.builtin "sum"):=by decide +kernel
theorem z62:î "min"=some (.builtin "min"):=by decide +kernel
theorem z72:î "max"=some (.builtin "max"):=by decide +kernel
theorem z82:î "abs"=some (.builtin "abs"):=by decide +kernel
theorem x80:î "isinstance"=some (.builtin "isinstance"):=by decide +kernel
theorem z92:î "int"=some (.type "int"):=by decide +kernel
theorem Q20:î "tuple"=some (.type "tuple"):=by decide +kernel
theorem e51:î "list"=some (.type "list"):=by decide +kernel
theorem Z62(x:XI lm X G E N sc){f:Bf}{as:Ex}{n:Str}{e:Ò}{l:List Ò}{p pos:Pos}(hf:served f=true)(hn:n=(bfN f).1)(hg:glob sc n=true)(hL:isL as=true)(g:Good X G E as (e::l)):b00 X G E (.bf f as) (.Call (.Name n p) (e::l) [] pos):=by
 subst hn;cases f with
 |len=>exact X40 x w92 (-0) z22 hg hL g|tuple=>exact i42 x Q01 (-0) Q20 hg hL g|list=>exact i42 x g92 (-0) e51 hg hL g|min=>exact X40 x (x32 x.calm) (-0) z62 hg hL g|max=>exact X40 x (x42 x.calm) (-0) z72 hg hL g|abs=>exact X40 x x52 (-0) z82 hg hL g|all=>exact X40 x (x02 x.calm) (-0) z32 hg hL g|any=>exact X40 x (x22 x.calm) (-0) z42 hg hL g|int=>exact i42 x x62 (-0) z92 hg hL g|sorted=>exact X40 x (B01 x.room.units) (-0) B41 hg hL g|sum=>exact X40 x (x12 x.calm) (-0) z52 hg hL g|_=>cases hf
theorem N62(t:Ty)(h:t≠.seq):Â2 (tyN t)∈i22/\î (Â2 (tyN t))=some (.type (tyN t))/\tyN t∈["int","bool","tuple","list","str"]:=by
 cases t with
 |seq=>exact absurd rfl h|_=>decide +kernel
theorem A02(x:XI lm X G E N sc){t:Ty}{a:Ex}{n:Str}{e:Ò}{p pos p2:Pos}(hs:t≠.seq)
  (hg2:glob sc (Â2 (tyN t))=true) (hn:n="isinstance") (hg:glob sc n=true) (ns:noStar e=true) (ga:b00 X G E a e):b00 X G E (.isi t a) (.Call (.Name n p) [e,.Name (Â2 (tyN t)) p2] [] pos):=by
 obtain⟨hb,hv,ht⟩:=N62 t hs;subst hn;obtain⟨k1,k2,k3⟩:=f00 hg;obtain⟨m1,m2,m3⟩:=f00 hg2;refine b20 (PE.imp (N20 O71 (x.glb _ k1) (x.blt _ (-0)) x80 (o30 ga.pe (o30 (b71 (v:=.ty (tyN t)) (x.glb _ m1) (x.blt _ hb) hv rfl m3 m2) L10) (d30 ns _ _)) k3 k2 (d30 ns _ _) rfl) λσ H Q q=>?_) rfl
 obtain⟨zA,ρ,z,rr,rel,st,e,po⟩:=q;refine l40 rel st e (h30 po) λm z1 e1=>?_;obtain⟨d,p1,e2⟩:=M.a20 e1;obtain⟨s1,rfl,q1⟩:=g50 p1;cases e2;refine⟨s1,rfl,λv H1 x1 st1 rv=>⟨d,v,tyN t,rfl,((rv.pl.d_ q1).same (a10 zA H1)).has,ht,?_⟩⟩;rw[h02 t d hs];exact f70 po x1 st1 _ _ (a30.refl H1) i50
theorem A12(x:XI lm X G E N sc){a:Ex}{n:Str}{e:Ò}{p pos p1 p2 p3:Pos}{k:Nat}(hg2:glob sc "tuple"=true)(hg3:glob sc "list"=true)(hn:n="isinstance")(hg:glob sc n=true)(ns:noStar e=true)(ga:b00 X G E a e) :
  b00 X G E (.isi .seq a) (.Call (.Name n p) [e,.Tuple [.Name "tuple" p1,.Name "list" p2] k p3] [] pos):=by
 subst hn;obtain⟨k1,k2,k3⟩:=f00 hg;obtain⟨m1,m2,m3⟩:=f00 hg2;obtain⟨l1,l2,l3⟩:=f00 hg3;refine b20 (PE.imp (N20 y61 (x.glb _ k1) (x.blt _ (-0)) x80 (o30 ga.pe (o30 (W01 (o30 (b71 (v:=.ty "tuple") (x.glb _ m1) (x.blt _ (-0)) Q20 rfl m3 m2)
  (o30 (b71 (v:=.ty "list") (x.glb _ l1) (x.blt _ (-0)) e51 rfl l3 l2) L10))) L10) (d30 ns _ _)) k3 k2 (d30 ns _ _) rfl) λσ H Q q=>?_) rfl
 obtain⟨zA,ρ,z,rr,rel,st,e,po⟩:=q;refine l40 rel st e (h30 po) λm z1 e1=>?_;obtain⟨d,p1,e2⟩:=M.a20 e1;obtain⟨s1,rfl,q1⟩:=g50 p1;cases e2;refine⟨s1,rfl,λv H1 x1 st1 rv=>⟨by show 2<=sizeLine;rw[Â7];decide,λt ht=>?_⟩⟩
 have sm:a30 H1 (upd H1 t (.tup [.ty "tuple",.ty "list"])):=a30.new _ ht;refine⟨d,v,t,rfl,((rv.pl.d_ q1).same (a30.trans (a10 zA H1) sm)).has,SqT.of d10,?_⟩;rw[Q31 d];exact f70 po x1 st1 _ _ sm i50
theorem N72(hs:e41 x=true)(ga:b00 X G E a v)(gi:b00 X G E i x):b00 X G E (.idx a i) (.Subscript v x pos):=by
 refine b20 (PE.imp (t92 ixD ga.pe gi.pe (L60 hs)) λσ H Q q=>?_) rfl;obtain⟨zA,ρ,z,rr,rel,st,e,po⟩:=q;refine j91 rel st e (h30 po) λdx dy z2 v w H2 e2 x2 st2 h1 h2=>?_;obtain⟨c,hc,e3⟩:=M.a20 e2;cases e3;exact⟨zA,z2,dx,dy,_,st2,h1,h2,by show Í3 _ (T90 dx dy)=_;rw[hc];rfl,f70 po x2 st2⟩
theorem A22(x:XI lm X G E N sc){i k:Nat}{n:Str}{c:Nat}{p q pos:Pos}(h1:N[i]?=some n)(h2:c70 n=true):b00 X G E (.zget i k) (.Subscript (.Name n p) (.Constant (.int k) c q) pos):=by
 unfold c70 at h2;simp only[À,á] at h2;refine b20 (PE.imp (t92 w61 (w90 (i:=i) (by rw[x.hN];exact h1) (x.vis n (ô h1)) h2.1 h2.2) u91 (L60 rfl)) λσ H Q qq=>?_) rfl
 obtain⟨zA,ρ,z,rr,rel,st,e,po⟩:=qq;have e0:z81 k ρ[i]? z=some rr:=e;unfold z81 at e0;split at e0
 ·rename_i p hs;obtain⟨v,hv,a,hz',rfl⟩:=rel i .z hs;subst hz';have st':H a=some (.lst [.int p.1,.bl p.2]):=st.zat;refine⟨_,hv,a,[.int p.1,.bl p.2],(k:Int),?_⟩;split at e0
  ·rename_i hk;subst hk;cases e0;obtain⟨s',e',po⟩:=po;cases e';exact⟨_,rfl,rfl,SqL.of st',rfl,po _ H Ext.refl st h50⟩
  ·split at e0
   ·rename_i hk;subst hk;cases e0;obtain⟨s',e',po⟩:=po;cases e';exact⟨_,rfl,rfl,SqL.of st',rfl,po _ H Ext.refl st (K71 Hd.bl)⟩
   ·cases e0
 ·cases e0
theorem k01(a:Int):∀ (n:Nat) {its:List Ã},its.length=n->(∀ i,i < n->∃ v t,its[i]?=some v/\v=.int (a + (i:Nat)) t)->Vals ((Ø n).map λ(k:Nat)=>V.int (a + k)) its:=by
 intro n its hl h;have:∀ (m:Nat) (l:List Ã) (o:Nat),l.length=m->(∀ i,i < m->∃ v t,l[i]?=some v/\v=.int (a + (o + i:Nat)) t)->Vals ((Ã8 o m 1).map λ(k:Nat)=>V.int (a + k)) l:=by
  intro m
  induction m with
  |zero =>
   intro l o hl _;rw[List.length_eq_zero_iff.mp hl];exact .nil
  |succ m ih =>
   intro l o hl h;cases l with
   |nil=>cases hl
   |cons x r =>
    obtain⟨v,t,e1,e2⟩:=h 0 (Nat.succ_pos m);simp only[Ý7,Ó1] at e1;subst e1;rw[Ñ0,È1];refine .cons ⟨t,by rw[e2];simp⟩ (ih r (o + 1) (by simpa using hl) λi hi=>?_)
    obtain⟨v,t,e1,e2⟩:=h (i + 1) (Nat.succ_lt_succ hi);exact⟨v,t,by simpa using e1,by rw[e2];congr 1;omega⟩
 rw[È0];exact this n its 0 hl λi hi=>by
  obtain⟨v,t,e1,e2⟩:=h i hi;exact⟨v,t,e1,by rw[e2];simp⟩
theorem B51:î "range"=some (.type "range"):=by decide +kernel
def lrV:List V->Option (Int × Int)
 |[.int j]=>some (0,j)|[.int i,.int j]=>some (i,j)|_=>none
def lrO:Bool->List V->HO
 |true=>HO.tup|false=>HO.lst
def lrT:Bool->String
 |true=>"tuple"|false=>"list"
def N82(b:Bool)(ta:TA):TE:=λσ H Q=>ta σ H λvs H1=>∃ i j:Int,lrV vs=some (i,j)/\-100000 < i/\i < 100000/\-100000 < j/\j < 100000/\∀ l,H1 l=none->Q (.ref l) (upd H1 l (lrO b ((Ø (j - i).toNat).map λ(k:Nat)=>V.int (i + k))))
theorem A32{pins:List (È × Obj)}{σ:L2.St}{H1:Hp}{s1:Æ}{r:È}{i j:Int}{t u v:Tok}{Q:VK}(hc:X.calm=true)(I2:Inv X pins σ H1 s1)(hr:Ô0 s1.heap r i j 1 t u v)(i1:-100000 < i)(i2:i < 100000)(j1:-100000 < j)(j2:j < 100000)
  (q:∀ l,H1 l=none->Q (.ref l) (upd H1 l (.lst ((Ø (j - i).toNat).map λ(k:Nat)=>V.int (i + k))))):Ô (Û X.prog X.w) X.A (call (.type "list") [.ref r]) (EP X pins σ Q) X.xe s1:=by
 have hz:Ã3 i j 1=(((j - i).toNat:Nat):Int):=by rw[rangeSize_one];split <;> omega
 refine call_list_range (n:=(j - i).toNat) (I2.ok.hd hc) hr (small_one ∅ ∅ ∅ ∅) hz ∅ λh' tk acc' c' kp hS hacc=>?_
 have rv:Vals ((Ø (j - i).toNat).map λ(k:Nat)=>V.int (i + k)) acc'.toList:=by
  refine k01 i (j - i).toNat ?_ λi hi=>?_
  ·rw[Ê1];exact hacc.1
  ·have hlt:i < acc'.size:=by rw[hacc.1];exact hi
   obtain⟨t,e⟩:=hacc.2 i acc'[i] (É1 hlt);exact⟨acc'[i],t,by rw[ÿ];exact É1 hlt,by rw[e];simp⟩
 have hlen:((Ø (j - i).toNat).map λ(k:Nat)=>V.int (i + k)).length<=sizeLine:=by rw[Å,ê,Â7];omega
 have hn:=I2.hok.fresh (Ê _);exact⟨.ref _,_,I2.laid (t':=tk) kp (Ê _) (show l20 X.prog X.w _ h' _ (.lst _) from⟨hlen,acc'.toList,c',rv,by rw[Î6];exact hS⟩),rfl,q _ hn⟩
theorem i52{pins:List (È × Obj)}{σ:L2.St}{H1:Hp}{s1:Æ}{r:È}{i j:Int}{t u v:Tok}{Q:VK}(hc:X.calm=true)(I2:Inv X pins σ H1 s1)(hr:Ô0 s1.heap r i j 1 t u v)(i1:-100000 < i)(i2:i < 100000)(j1:-100000 < j)(j2:j < 100000)
  (q:∀ l,H1 l=none->Q (.ref l) (upd H1 l (.tup ((Ø (j - i).toNat).map λ(k:Nat)=>V.int (i + k))))):Ô (Û X.prog X.w) X.A (call (.type "tuple") [.ref r]) (EP X pins σ Q) X.xe s1:=by
 have hz:Ã3 i j 1=(((j - i).toNat:Nat):Int):=by rw[rangeSize_one];split <;> omega
 refine HT.tuple_range (n:=(j - i).toNat) (I2.ok.hd hc) hr (small_one ∅ ∅ ∅ ∅) hz ∅ λh' tk acc' kp hsz hacc=>?_
 have rv:Vals ((Ø (j - i).toNat).map λ(k:Nat)=>V.int (i + k)) acc'.toList:=by
  refine k01 i (j - i).toNat ?_ λi hi=>?_
  ·rw[Ê1];exact hacc.1
  ·have hlt:i < acc'.size:=by rw[hacc.1];exact hi
   obtain⟨t,e⟩:=hacc.2 i acc'[i] (É1 hlt);exact⟨acc'[i],t,by rw[ÿ];exact É1 hlt,by rw[e];simp⟩
 have hlen:((Ø (j - i).toNat).map λ(k:Nat)=>V.int (i + k)).length<=sizeLine:=by rw[Å,ê,Â7];omega
 exact⟨.ref _,_,I2.laid (t':=tk) (λb o e=>Ä _ (kp b o e)) hsz (show l20 X.prog X.w _ _ _ (.tup _) from⟨hlen,acc'.toList,rv,⟨_,Ð _ rfl,rfl,0,by rw[Î6]⟩⟩),rfl,q _ (I2.hok.fresh hsz)⟩
theorem B61(b:Bool){pins:List (È × Obj)}{σ:L2.St}{H1:Hp}{s1:Æ}{r:È}{i j:Int}{t u v:Tok}{Q:VK}(hc:X.calm=true)(I2:Inv X pins σ H1 s1)(hr:Ô0 s1.heap r i j 1 t u v)(i1:-100000 < i)(i2:i < 100000)(j1:-100000 < j)(j2:j < 100000)
  (q:∀ l,H1 l=none->Q (.ref l) (upd H1 l (lrO b ((Ø (j - i).toNat).map λ(k:Nat)=>V.int (i + k))))):Ô (Û X.prog X.w) X.A (call (.type (lrT b)) [.ref r]) (EP X pins σ Q) X.xe s1:=by
 cases b with
 |true=>exact i52 hc I2 hr i1 i2 j1 j2 q|false=>exact A32 hc I2 hr i1 i2 j1 j2 q
theorem N92(b:Bool):î (lrN b)=some (.type (lrT b)):=by
 cases b with
 |true=>exact Q20|false=>exact e51
theorem B71(b:Bool){e:Ò}{l:List Ò}{ta:TA}{p p2 pos pos2:Pos}(hc:X.calm=true)(hg:Gl X (lrN b))(hm:X.mg (lrN b)=none)(hg2:Gl X "range")(hm2:X.mg "range"=none)(ha:PA X (e::l) ta)(hs:noStar e=true)(hs2:l.all noStar=true) :
  PE X (.Call (.Name (lrN b) p) [.Call (.Name "range" p2) (e::l) [] pos2] [] pos) (N82 b ta):=by
 intro pins s σ H Q I h;refine Call_ (x00 I hg hm (N92 b) (À5 (Calls.spliced_cons ?_) rfl rfl) (by cases b <;> decide) (by cases b <;> decide))
 refine Call_ (x00 I hg2 hm2 B51 (À5 (thn (ha pos2 pins s σ H _ I h) λus s1 ⟨vs,H1,I1,r1,q1⟩=>?_) (d30 hs l X.env) (x60 X.env pos2 hs2)));obtain⟨i,j,hv,i1,i2,j1,j2,q⟩:=q1
 match vs,hv with
 |[.int _],hv =>
  cases hv;obtain⟨u,rfl,r⟩:=vals1 r1;obtain⟨t,rfl⟩:=r;exact call_range_1 (Ø2 (B61 b hc (I1.kept λb o e=>Ä _ e) (Ô0.new ..) i1 i2 j1 j2 q))
 |[.int _,.int _],hv =>
  cases hv;obtain⟨u,u',rfl,r,r'⟩:=vals2 r1;obtain⟨t,rfl⟩:=r;obtain⟨t',rfl⟩:=r';exact call_range_2 (Ø2 (B61 b hc (I1.kept λb o e=>Ä _ e) (Ô0.new ..) i1 i2 j1 j2 q))
theorem Q61:∀ {ds xs:List D},lrD ds=some xs->∃ i j:Int,((ds=[.int j]/\i=0)∨ds=[.int i,.int j])/\-100000 < i/\i < 100000/\-100000 < j/\j < 100000/\xs=(Ø (j - i).toNat).map λ(k:Nat)=>D.int (i + k)
 |[],_,h=>by cases h
 |[x],xs,h=>by
  cases x with
  |int j =>
   obtain⟨hj,h⟩:=f30 h;have hj:=G40.mp hj;exact⟨0,j,.inl ⟨rfl,rfl⟩,by omega,by omega,hj.1,hj.2,by cases h;simp⟩
  |_=>cases h
 |[x,y],xs,h=>by
  cases x with
  |int i =>
   cases y with
   |int j =>
    obtain⟨hj,h⟩:=f30 h;have h1:=G40.mp hj.1;have h2:=G40.mp hj.2;exact⟨i,j,.inr rfl,h1.1,h1.2,h2.1,h2.2,by cases h;rfl⟩
   |_=>cases h
  |_=>cases h
 |x::y::_::_,_,h=>by
  cases x with
  |int i=>cases y <;> cases h
  |_=>cases h
theorem A42(x:XI lm X G E N sc){b:Bool}{as:Ex}{a:Ò}{l:List Ò}{p p2 pos pos2:Pos}(h1:glob sc (lrN b)=true)(h2:glob sc "range"=true)(hL:isL as=true)(g:Good X G E as (a::l)):b00 X G E (.lrng b as) (.Call (.Name (lrN b) p) [.Call (.Name "range" p2) (a::l) [] pos2] [] pos):=by
 obtain⟨k1,_,_⟩:=f00 h1;obtain⟨m1,_,_⟩:=f00 h2;obtain⟨ha,hs⟩:=g.args hL;rw[Ã6,À] at hs;refine b20 (PE.imp (B71 b x.calm (x.glb _ k1) (x.blt _ (by cases b <;> decide)) (x.glb _ m1) (x.blt _ (-0)) ha hs.1 hs.2) λσ H Q q=>?_) rfl
 obtain⟨zA,ρ,z,rr,rel,st,e,po⟩:=q;refine s31 rel st e (h30 po) λl z1 e1 vs H1 x1 st1 rvs=>?_;obtain⟨xs,hx,e2⟩:=M.a20 e1;cases e2;obtain⟨s',e',po⟩:=po;cases e';obtain⟨ds,h3,h4⟩:=Ï.mp hx;have hd:=Q00 rvs h3;have fin:∀ i j:Int,xs=(Ø (j - i).toNat).map (λ(k:Nat)=>D.int (i + k))->∀ lA,H1 lA=none->Q (.ref lA) (upd H1 lA (lrO b ((Ø (j - i).toNat).map λ(k:Nat)=>V.int (i + k)))):=λi j ex lA hn=>by
  subst ex;have hI:=HdA.ints (K:=X.K) (H:=hz zA H1) ((Ø (j - i).toNat).map λ(k:Nat)=>i + (k:Int));rw[Ü,Ü] at hI;cases b with
  |false=>exact po _ _ (x1.trans (Ext.of (a30.new _ hn))) (st1.same (a30.new _ hn)) ((u20 st1 hI hn).from x1)|true=>exact po _ _ (x1.trans (Ext.of (a30.new _ hn))) (st1.same (a30.new _ hn)) (K71 (Hd.tup ((st1.same (a30.new _ hn)).W91 (SqT.of d10)) (hI.same (m30 (a30.new _ hn)))))
 obtain⟨i,j,hds,j1,j2,j3,j4,ex⟩:=Q61 h4;refine⟨i,j,?_,j1,j2,j3,j4,fin i j ex⟩;rcases hds with ⟨rfl,rfl⟩ | rfl
 ·obtain⟨v,rfl,h5⟩:=hd.one;cases h5.j60;rfl
 ·obtain⟨v,w,rfl,h5,h6⟩:=hd.two;cases h5.j60;cases h6.j60;rfl
def tPO(K:Â)(G:Gs)(E:XK)(x:Ex):TO:=λσ H Q=>∃ zA ρ z r,E60 K zA H ρ σ/\f20 zA z H/\ev G.F x ρ z=some r/\(match r with
 |.ok l z'=>∃ o,z71 l=some o/\∀ H',Ext zA H H'->f20 zA z' H'->Q o H'
 |.er c z'=>EPost G zA E c z' H)
theorem A52(hL:isL x=true)(g:Good X G E x e.toList):PO X e (tPO X.K G E x):=by
 cases e with
 |none =>
  cases x with
  |nil =>
   refine λpins s σ H Q I q=>c42 pins s σ H Q I ?_;obtain⟨zA,ρ,z,r,rel,st,e,po⟩:=q;cases e;obtain⟨o,e',po⟩:=po;cases e';exact po H Ext.refl st
  |cons a r=>obtain⟨e,es,h,_⟩:=g;cases h
  |_=>cases hL
 |some e =>
  cases x with
  |nil=>cases (show [e]=[] from g)
  |cons a r =>
   obtain⟨e',es,h,ns,ga,lr,gr⟩:=g;cases h;refine λpins s σ H Q I q=>c52 ga.pe pins s σ H Q I ?_;obtain⟨zA,ρ,z,rr,rel,st,e,po⟩:=q;have her:∀ c z1,rr=.er c z1->EPost G zA E c z1 H:=λc z1 e=>by subst e;exact po
   have rn:r=.nil:=by
    cases r with
    |nil=>rfl|cons b q=>obtain⟨e,es,h,_⟩:=gr;cases h
    |_=>cases lr
   subst rn;refine l40 rel st e her λl z1 e1=>?_;obtain⟨s,hs,e2⟩:=M.a20 e1;cases e2;obtain⟨o,e',po⟩:=po;refine⟨s,H20 hs,λv H1 x1 st1 rv=>?_⟩;cases s with
   |d y =>
    cases y with
    |int i =>
     cases e';exact⟨i,Hd.j60 (show Hd X.K (hz zA H1) (.int i) v from rv),po H1 x1 st1⟩
    |_=>cases e'
   |_=>cases e'
  |_=>cases hL
theorem Z72{a lo hi:Ex}{v:Ò}{l h:Option Ò}{p pos:Pos}(ga:b00 X G E a v)(hl:isL lo=true)(hh:isL hi=true)(gl:Good X G E lo l.toList)(gh:Good X G E hi h.toList):b00 X G E (.sl a lo hi) (.Subscript v (.Slice l h none p) pos):=by
 refine b20 (PE.imp (M11 Y62 ga.pe (A52 hl gl) (A52 hh gh)) λσ H Q q=>?_) rfl;obtain⟨zA,ρ,z,rr,rel,st,e,po⟩:=q;refine l40 rel st e (h30 po) λm z1 e1=>?_;obtain⟨dx,p1,e2⟩:=M.a20 e1;obtain⟨s1,rfl,q1⟩:=g50 p1;refine⟨s1,rfl,λw H1 x1 st1 rv=>?_⟩;rcases M.bind_some e2 with ⟨u,z2,e3,e4⟩ | ⟨c,z2,e3,e4⟩
 ·obtain⟨o,ho,e5⟩:=M.a20 e4;refine⟨zA,ρ,z1,_,rel.mono x1,st1,e3,o,ho,λH2 x2 st2=>?_⟩;rcases M.bind_some e5 with ⟨u',z3,e6,e7⟩ | ⟨c,z3,e6,e7⟩
  ·obtain⟨o',ho',e8⟩:=M.a20 e7;refine⟨zA,ρ,z2,_,(rel.mono x1).mono x2,st2,e6,o',ho',λH3 x3 st3=>?_⟩;obtain⟨s,hs,e9⟩:=M.a20 e8;cases e9;exact⟨zA,z3,dx,s,st3,((rv.pl.mono (x2.trans x3)).d_ q1),hs,f70 po ((x1.trans x2).trans x3) st3⟩
  ·exact⟨zA,ρ,z2,_,(rel.mono x1).mono x2,st2,e6,((h30 po) c z3 e7).mono (x1.trans x2)⟩
 ·exact⟨zA,ρ,z1,_,rel.mono x1,st1,e3,((h30 po) c z2 e4).mono x1⟩
theorem A62:∀ {x:Ex}{es:List Ò}{z z1:Z}{l:List S},isL x=true->Good X G E x es->ev G.F x ρ z=some (.ok l z1)->l.length=es.length:=by
 intro x
 induction x with
 |nil =>
  intro es z z1 l _ h e;have h:es=[]:=h;subst h;cases e;rfl
 |cons a r _ ih =>
  intro es z z1 l _ h e;obtain⟨e',es',rfl,ns,g,lr,gr⟩:=h;rcases M.bind_some e with ⟨m,z2,e1,e2⟩ | ⟨c,z2,e1,e2⟩
  ·obtain⟨s,hs,e3⟩:=M.a20 e2;rcases M.bind_some e3 with ⟨m',z3,e4,e5⟩ | ⟨c,z3,e4,e5⟩
   ·cases e5;rw[Õ,Õ,ih lr gr e4]
   ·cases e5
  ·cases e2
 |_=>intro es z z1 l h;cases h
theorem s_call(x:XI lm X G E N sc){f:Nat}{as:Ex}{n:Str}{ps:List Str}{e:Ò}{l:List Ò}{p pos:Pos}(hf:G.fns[f]?=some (n,ps))(hl:ps.length=l.length + 1)(hg:glob sc n=true)(hL:isL as=true)(g:Good X G E as (e::l)) :
  b00 X G E (.call f as) (.Call (.Name n p) (e::l) [] pos):=by
 obtain⟨k1,k2,k3⟩:=f00 hg;obtain⟨fa,fd,m1,m2,m3,F⟩:=x.gok f n ps hf;obtain⟨ha,hs⟩:=g.args hL;rw[Ã6,À] at hs;refine b20 (PE.imp (c12 F x.room (x.glb n k1) m1 m2 m3 .nil x.pas ha k2 (d30 hs.1 l X.env) (x60 X.env pos hs.2)) λσ H Q q=>?_) rfl;obtain⟨zA,ρ,z,rr,rel,st,e,po⟩:=q;have e0:M.bind (ev G.F as ρ) (λl=>M.bind (G.F false f (l.map plS)) λs=>M.ret [s]) z=some rr:=e;rcases M.bind_some e0 with ⟨m,z1,e1,e2⟩ | ⟨c,z1,e1,e2⟩
 ·refine⟨zA,ρ,z,_,rel,st,e1,λvs H1 x1 st1 rvs=>?_⟩;have hv:vs.length=ps.length:=by rw[← rvs.length,A62 hL g e1,hl];rfl
  show spF X.K G f ps.length (vs++[]) H1 Q E;rw[Ã0];refine⟨hv,zA,z1,m.map plS,?_⟩;have ra:RvA X.K zA H1 (m.map plS) vs:=RvA.plS (Ä5.p32 rvs λ_ _ q=>q.pl);rcases M.bind_some e2 with ⟨s,z2,e3,e4⟩ | ⟨c,z2,e3,e4⟩
  ·cases e4;refine⟨_,ra,st1,e3,λv H2 x2 st2 rv=>?_⟩;obtain⟨s',e',po⟩:=po;cases e';exact po v H2 (x1.trans x2) st2 (rv.from x1)
  ·exact⟨_,ra,st1,e3,((h30 po) c z2 e4).mono x1⟩
 ·exact⟨zA,ρ,z,_,rel,st,e1,(h30 po) c z1 e2⟩
def G42:Pat->Nat
 |.nil=>0|.cons _ r=>G42 r + 1|_=>0
mutual
noncomputable def gP(K:Â):Pat->TG
 |.v i=>q01 i|.tup ps=>R62 K (G42 ps) (gL K ps)|.nil=>λ_ _ _ _=>False|.cons _ _=>λ_ _ _ _=>False
noncomputable def gL(K:Â):Pat->TGs
 |.nil=>R52|.cons p r=>s02 (gP K p) (gL K r)|.v _=>λ_ _ _ _=>False|.tup _=>λ_ _ _ _=>False
end
end
end Q
namespace Q
open PySem L2 PySem.Spec PyProof.Rows
variable [TB:Tb]
theorem X91(h:noStar e=true)(es:List Ò)(env:Ç8):É7 (e::es) env=(false,Ö7 e env)::É7 es env:=by
 cases e <;> first | rfl | cases h
structure Q71(X:Cx)(N:List Str)(loc:Str->Bool):Prop where
 hN:X.N=N
 nd:N.Nodup
 lc:∀ x,loc x=true->Loc X.env.scope x
 fn:∀ x,loc x=true->(X.fn x=true∨X.env.scope.names.lookup x=some .local)
 calm:X.calm=true
theorem L70:∀ {es:List Ò} (env:Ç8),es.all noStar=true->(É7 es env).length=es.length/\(É7 es env).findIdx? (·.1)=none
 |[],_,_=>⟨rfl,rfl⟩
 |e::es,env,h=>by
  rw[Ã6,À] at h;obtain⟨h1,h2⟩:=L70 env h.2;rw[X91 h.1];refine⟨by rw[Õ,Õ,h1],?_⟩
  rw[List.findIdx?_cons,h2];rfl
theorem k11:∀ {r:Pat}{es:List Ò},s41 N loc r es=true->es.length=G42 r/\es.all noStar=true
 |.nil,es,h=>by
  unfold s41 at h;have:es=[]:=Ñ1.mp h;subst this;exact⟨rfl,rfl⟩
 |.cons p r,es,h=>by
  unfold s41 at h;cases es with
  |nil=>cases h
  |cons e es =>
   rw[À,À] at h;obtain⟨h1,h2⟩:=k11 (r:=r) h.2;exact⟨by rw[Õ,h1];rfl,by rw[Ã6,h.1.1,h2];rfl⟩
 |.v _,_,h=>by unfold s41 at h;cases h
 |.tup _,_,h=>by unfold s41 at h;cases h
mutual
theorem B81(L:Q71 X N loc):∀ {p:Pat}{e:Ò},l50 N loc p e=true->PG X e (gP X.K p)
 |.v i,e,h=>by
  unfold l50 at h;cases e with
  |Name x pos =>
   rw[À,beq_iff_eq] at h;unfold gP;exact b72 (by rw[L.hN];exact L.nd) (by rw[L.hN];exact h.1) (L.lc x h.2) (L.fn x h.2)
  |_=>cases h
 |.tup ps,e,h=>by
  unfold l50 at h;cases e with
  |Tuple es k pos =>
   obtain⟨h1,h2⟩:=k11 h;obtain⟨h3,h4⟩:=L70 X.env h2;unfold gP;exact s12 L.calm (Y01 L h) (by rw[h3,h1]) h4
  |_=>cases h
 |.nil,e,h=>by unfold l50 at h;cases h
 |.cons _ _,e,h=>by unfold l50 at h;cases h
theorem Y01(L:Q71 X N loc):∀ {r:Pat}{es:List Ò},s41 N loc r es=true->PGs X es (gL X.K r)
 |.nil,es,h=>by
  unfold s41 at h;have:es=[]:=Ñ1.mp h;subst this;unfold gL;exact b82
 |.cons p r,es,h=>by
  unfold s41 at h;cases es with
  |nil=>cases h
  |cons e es =>
   rw[À,À] at h;unfold gL;exact L41 (B81 L h.1.2) (Y01 L h.2) (by rw[X91 h.1.1];rfl)
 |.v _,_,h=>by unfold s41 at h;cases h
 |.tup _,_,h=>by unfold s41 at h;cases h
end
section
variable {K:Â}{zA:Option È}{H:Hp}
theorem E60.set{ρ:Env}{σ:L2.St}{i:Nat}{s:S}{v:V}(h:E60 K zA H ρ σ)(hl:ρ.length=σ.length)(r:RvP K zA H s v):E60 K zA H (ρ.set i (some s)) (σ.set i (some v)):=by
 intro j t e;by_cases hj:j=i
 ·subst hj;have hlt:j < ρ.length:=by
   have:=(Þ.mp e).1;simpa using this
  rw[ï hlt] at e;cases e;exact⟨v,ï (by rw[← hl];exact hlt),r⟩
 ·rw[ë (Â4 hj)] at e;obtain⟨w,h1,h2⟩:=h j t e;exact⟨w,by rw[ë (Â4 hj)];exact h1,h2⟩
theorem H30:∀ {r:Pat}{l:List D}{ρ ρ':Env},bindL r l ρ=some ρ'->l.length=G42 r
 |.nil,l,ρ,ρ',e=>by
  unfold bindL at e;cases l with
  |nil=>rfl|cons x l=>cases e
 |.cons p r,l,ρ,ρ',e=>by
  unfold bindL at e;cases l with
  |nil=>cases e
  |cons x l =>
   obtain⟨ρ1,e1,e2⟩:=Ï.mp e;rw[Õ,H30 e2];rfl
 |.v _,_,_,_,e=>by unfold bindL at e;cases e
 |.tup _,_,_,_,e=>by unfold bindL at e;cases e
mutual
theorem B91:∀ {p:Pat}{d:D}{ρ ρ':Env},g30 p d ρ=some ρ'->∀ {σ:L2.St}{v:V}{R:L2.St->Hp->Prop},E60 K zA H ρ σ->ρ.length=σ.length->Hd K (hz zA H) d v ->
  (∀ σ',E60 K zA H ρ' σ'->ρ'.length=σ'.length->R σ' H)->gP K p v σ H R
 |.v i,d,ρ,ρ',e,σ,v,R,rel,hl,hd,k=>by
  unfold g30 at e;cases e;unfold gP;exact k _ (rel.set hl (show RvP K zA H (.d d) v from hd)) (by rw[Å0,Å0,hl])
 |.tup ps,d,ρ,ρ',e,σ,v,R,rel,hl,hd,k=>by
  unfold g30 at e;cases d with
  |tup l =>
   obtain⟨a,xs,rfl,h1,h2⟩:=hd.E10;unfold gP;exact⟨a,xs,rfl,(a10 zA H).sqT h1,by rw[h2.length];exact H30 e,k21 e rel hl h2 k⟩
  |_=>cases e
 |.nil,_,_,_,e,_,_,_,_,_,_,_=>by unfold g30 at e;cases e
 |.cons _ _,_,_,_,e,_,_,_,_,_,_,_=>by unfold g30 at e;cases e
theorem k21:∀ {r:Pat}{l:List D}{ρ ρ':Env},bindL r l ρ=some ρ'->∀ {σ:L2.St}{vs:List V}{R:L2.St->Hp->Prop},E60 K zA H ρ σ->ρ.length=σ.length->HdA K (hz zA H) l vs ->
  (∀ σ',E60 K zA H ρ' σ'->ρ'.length=σ'.length->R σ' H)->gL K r vs σ H R
 |.nil,l,ρ,ρ',e,σ,vs,R,rel,hl,hd,k=>by
  unfold bindL at e;cases l with
  |nil =>
   cases e;unfold gL;exact⟨hd.g40,k σ rel hl⟩
  |cons x l=>cases e
 |.cons p r,l,ρ,ρ',e,σ,vs,R,rel,hl,hd,k=>by
  unfold bindL at e;cases l with
  |nil=>cases e
  |cons x l =>
   obtain⟨ρ1,e1,e2⟩:=Ï.mp e;obtain⟨v,ws,rfl,h1,h2⟩:=hd.c50;unfold gL;exact⟨v,ws,rfl,B91 e1 rel hl h1 λσ' r' l'=>k21 e2 r' l' h2 k⟩
 |.v _,_,_,_,e,_,_,_,_,_,_,_=>by unfold bindL at e;cases e
 |.tup _,_,_,_,e,_,_,_,_,_,_,_=>by unfold bindL at e;cases e
end
end
end Q
namespace Q
open PySem L2 PySem.Spec PyProof.Rows
variable [TB:Tb]
structure O02(K:PySem.W.Frag)(zA:Option Addr)(J:L2.It)(xs:List D)(H1:Hp):Prop where
 go:∀ i H,Ext zA H1 H->i < xs.length->J.go i H
 yld:∀ i H x H' z d,Ext zA H1 H->f20 zA z H->J.yld i H x H'->xs[i]?=some d->a30 H H'/\Hd K (hz zA H') d x
 stop:∀ H,Ext zA H1 H->J.stop xs.length H
structure ItB(K:PySem.W.Frag)(J:L2.It)(xs:List D)(B:Hp):Prop where
 go:∀ i H,a30 B H->i < xs.length->J.go i H
 yld:∀ i H x H' zA z d,a30 B (hz zA H)->f20 zA z H->J.yld i H x H'->xs[i]?=some d->a30 H H'/\∀ C,a30 B C->(∀ a ys,SqT K (hz zA H') a ys->SqT K C a ys)->Hd K C d x
 stop:∀ H,a30 B H->J.stop xs.length H
section
variable {K:Â}{B:Hp}
theorem ItB.ok(h:ItB K J xs (hz zA H1)):O02 K zA J xs H1 :=
 ⟨λi H x=>h.go i H (a30.trans x (a10 zA H)),λi H x H' z d e st y k=>let ⟨s,f⟩:=h.yld i H x H' zA z d e st y k;⟨s,f _ (a30.trans e (m30 s)) λ_ _ q=>q⟩,λH x=>h.stop H (a30.trans x (a10 zA H))⟩
theorem k31(h:t70 K B a ys)(r:HdA K B xs ys):ItB K (Itl K a) xs B where
 go:=λi H x hi=>⟨ys,ys[i]'(by rw[r.length];exact hi),(h.same x).sq,by simp⟩
 yld:=λi H v H' zA z d x st y e=>by
  obtain⟨rfl,y⟩:=y;have y1:=y ys ((h.same x).same (a10 zA _)).sq;obtain⟨w,e1,e2⟩:=r.get e;rw[y1] at e1;cases e1;exact⟨a30.refl _,λC c _=>e2.same c⟩
 stop:=λH x=>⟨ys,(h.same x).sq,by rw[r.length];exact Ê _⟩
theorem C01(h:SqT K B a ys)(r:HdA K B xs ys):ItB K (Itt K a) xs B where
 go:=λi H x hi=>⟨ys,ys[i]'(by rw[r.length];exact hi),a30.sqT x h,by simp⟩
 yld:=λi H v H' zA z d x st y e=>by
  obtain⟨rfl,y⟩:=y;have y1:=y ys ((a10 zA _).sqT (a30.sqT x h));obtain⟨w,e1,e2⟩:=r.get e;rw[y1] at e1;cases e1;exact⟨a30.refl _,λC c _=>e2.same c⟩
 stop:=λH x=>⟨ys,a30.sqT x h,by rw[r.length];exact Ê _⟩
theorem C11(lo:Int)(n:Nat):ItB K (Itr lo n) ((Ø n).map λ(k:Nat)=>D.int (lo + k)) B where
 go:=λi H x hi=>by show i < n;simpa using hi
 yld:=λi H v H' zA z d x st y e=>by
  obtain⟨rfl,rfl⟩:=y;rw[ã] at e;obtain⟨k,e1,rfl⟩:=Ì.mp e;obtain⟨h1,h2⟩:=Þ.mp e1;rw[List.getElem_range] at h2;subst h2;exact⟨a30.refl _,λ_ _ _=>Hd.int⟩
 stop:=λH x=>by show n<=_;simp
end
section
variable {K:Â}{zA:Option È}{H1:Hp}
theorem zip_get:∀ {a b:List D}{i:Nat}{d:D},(A60 a b)[i]?=some d->∃ x y,a[i]?=some x/\b[i]?=some y/\d=.tup [x,y]
 |[],_,_,_,e=>by simp[A60] at e|_::_,[],_,_,e=>by simp[A60] at e|x::r,y::q,0,d,e=>by simp[A60] at e;exact⟨x,y,rfl,rfl,e.symm⟩
 |x::r,y::q,i + 1,d,e=>by
  obtain⟨u,v,h1,h2,h3⟩:=zip_get (a:=r) (b:=q) (i:=i) (by simpa [A60] using e)
  exact⟨u,v,by simpa using h1,by simpa using h2,h3⟩
theorem e61:∀ (a b:List D),(A60 a b).length=min a.length b.length
 |[],_=>by simp[A60]|_::_,[]=>by simp[A60]|x::r,y::q=>by simp only[A60,Õ,e61 r q];omega
theorem C21(h:∀ H,a30 B H->SqB bb K H a us)(r:HdA K B xs us)(h':∀ H,a30 B H->SqB bb K H b ws)(r':HdA K B ys ws):ItB K (Itz bb K a b) (A60 xs ys) B where
 go:=λi H x hi=>by
  rw[e61] at hi;exact⟨us,ws,us[i]'(by rw[r.length];omega),ws[i]'(by rw[r'.length];omega),h H x,h' H x,by simp,by simp⟩
 yld:=λi H v H' zA z d x st y e=>by
  obtain⟨T,rfl,hT,y⟩:=y;obtain⟨d1,d2,e1,e2,rfl⟩:=zip_get e;obtain⟨w1,f1,g1⟩:=r.get e1;obtain⟨w2,f2,g2⟩:=r'.get e2;have y1:=y us ws w1 w2 (h H (a30.trans x (a10 zA H))) (h' H (a30.trans x (a10 zA H))) f1 f2;subst y1;have sm:a30 H (upd H T (.tup [w1,w2])):=a30.new _ hT;exact⟨sm,λC c t=>Hd.tup (t _ _ ((st.same sm).W91 (SqT.of d10))) (.cons (g1.same c) (.cons (g2.same c) .nil))⟩
 stop:=λH x=>⟨us,ws,h H x,h' H x,by rw[e61,r.length,r'.length];omega⟩
end
def PX(P:D->Prop):D->Prop
 |.tup l=>∀ y∈l,P y|.lst l=>∀ y∈l,P y|_=>True
def ItX(K:Â)(zA:Option È)(H H':Hp)(l:List S)(J:L2.It)(xs:List D):Prop :=
 ∀ (P:D->Prop) (B:Hp),a30 B (hz zA H')->(∀ a ys,SqT K (hz zA H') a ys->SqT K B a ys)->(∀ d v,P d->Hd K (hz zA H') d v->Hd K B d v)->(∀ ds,plA l=some ds->∀ d∈ds,PX P d) ->
  (∀ a ys,t70 K (hz zA H') a ys->((H a=none/\H' a=some (.lst ys))∨s11 l=true)->t70 K B a ys)->ItB K J xs B
theorem HdA.move{K:Â}{H B:Hp}{P:D->Prop}(mv:∀ d v,P d->Hd K H d v->Hd K B d v):∀ {ds:List D}{vs:List V},(∀ y∈ds,P y)->HdA K H ds vs->HdA K B ds vs
 |[],_,_,h=>by rw[h.g40];exact .nil
 |d::ds,_,p,h=>by
  obtain⟨x,r,rfl,h1,h2⟩:=h.c50;exact .cons (mv d x (p d Ç) h1) (HdA.move mv (λy hy=>p y (É _ hy)) h2)
theorem ItX.ok{K:Â}{zA:Option È}{H H':Hp}{l:List S}{J:L2.It}{xs:List D}(h:ItX K zA H H' l J xs):O02 K zA J xs H':=by
 refine(h (λ_=>True) (hz zA H') (a30.refl _) (λ_ _ q=>q) (λ_ _ _ q=>q) (λds _ d _=>?_) λ_ _ q _=>q).ok;cases d <;> first | trivial | exact λ_ _=>trivial
def tIt(K:Â)(G:Gs)(E:XK)(it:It)(src:Ex):TI:=λσ H R=>∃ zA ρ z r,E60 K zA H ρ σ/\f20 zA z H/\ev G.F src ρ z=some r/\(match r with
 |.ok l z'=>∃ xs,(plA l).bind (itD it)=some xs/\∀ J H',Ext zA H H'->f20 zA z' H'->ItX K zA H H' l J xs->R J H'
 |.er c z'=>EPost G zA E c z' H)
section
variable {lm:Bool}{X:Cx}{G:Gs}{E:XK}{N:List Str}{sc:Á2}
theorem A72{zA:Option È}{H:Hp}{it:It}{P:L2.It->Hp->Prop}{r:R (List S)}(po:(match r with | .ok l z'=>∃ xs,(plA l).bind (itD it)=some xs/\∀ J H',Ext zA H H'->f20 zA z' H'->ItX X.K zA H H' l J xs->P J H' | .er c z'=>EPost G zA E c z' H)):∀ c z1,r=.er c z1->EPost G zA E c z1 H:=λc z1 e=>by subst e;exact po
theorem C31{s:S}{ds:List D}(h:plA [s]=some ds):∃ d,ds=[d]/\plD s=some d:=by
 cases s with
 |d x=>cases h;exact⟨x,rfl,rfl⟩
 |fr xs=>cases h;exact⟨_,rfl,rfl⟩
 |_=>cases h
theorem Y11{tg e:Ò}{a:Ex}(g:b00 X G E a e):PI X tg e (tIt X.K G E .seq (.cons a .nil)):=by
 intro pins s σ H R I q;obtain⟨zA,ρ,z,rr,rel,st,ee,po⟩:=q;have e0:M.bind (ev G.F a ρ) (λx=>M.bind (M.of (one x)) λs=>M.bind (ev G.F .nil ρ) λy=>M.ret (s::y)) z=some rr:=ee;rcases M.bind_some e0 with ⟨m,z1,e1,e2⟩ | ⟨c,z1,e1,e2⟩
 ·obtain⟨t,ht,e3⟩:=M.a20 e2;cases e3;have hm:=H20 ht;subst hm;obtain⟨xs,hx,po⟩:=po;obtain⟨ds,h1,h2⟩:=Ï.mp hx;obtain⟨d,rfl,h3⟩:=C31 h1;cases d with
  |tup l =>
   cases h2;refine V71 g.pe pins s σ H R I ⟨zA,ρ,z,_,rel,st,e1,t,rfl,λv H1 x1 st1 rv=>?_⟩;obtain⟨b,ys,rfl,k1,k2⟩:=(rv.pl.d_ h3).E10;exact⟨b,rfl,⟨ys,(a10 zA H1).sqT k1⟩,po _ H1 x1 st1 λP B sub tup mv pa sf=>C01 (tup _ _ k1) (HdA.move mv (show ∀ y∈xs,P y from pa _ h1 _ Ç) k2)⟩
  |lst l =>
   cases h2;refine b91 g.pe pins s σ H R I ⟨zA,ρ,z,_,rel,st,e1,t,rfl,λv H1 x1 st1 rv=>?_⟩;have fin:∀ {b:È}{ys:List V},t70 X.K (hz zA H1) b ys->HdA X.K (hz zA H1) xs ys->((H b=none/\H1 b=some (.lst ys))∨s11 [t]=true)->∃ a,V.ref b=.ref a/\(∃ xs,SqL X.K H1 a xs)/\R (Itl X.K a) H1:=λ{b ys} k1 k2 k5=>by
    exact⟨b,rfl,⟨ys,(k1.same (a10 zA H1)).sq⟩,po _ H1 x1 st1 λP B sub tup mv pa sf=>k31 (sf _ _ k1 k5) (HdA.move mv (show ∀ y∈xs,P y from pa _ h1 _ Ç) k2)⟩
   cases t with
   |d x =>
    cases h3;obtain⟨b,ys,rfl,k1,k2⟩:=Hd.b41 (show Hd X.K (hz zA H1) (.lst xs) v from rv);exact fin k1 k2 (.inr rfl)
   |fr x =>
    cases h3;obtain⟨b,ys,rfl,k0,k1,k2,k3⟩:=rv;exact fin (t70.of (e00 k2 k1)) (k3.same (g20 b _)) (.inl ⟨k0,k2⟩)
   |_=>cases h3
  |_=>cases h2
 ·exact b91 g.pe pins s σ H R I ⟨zA,ρ,z,_,rel,st,e1,(A72 po) c z1 e2⟩
theorem Q30{l:List S}{it:It}{xs:List D}(h:(plA l).bind (itD it)=some xs):∃ ds,plA l=some ds/\itD it ds=some xs:=Ï.mp h
theorem C41(x:XI lm X G E N sc){tg a:Ò}{as:Ex}{n:Str}{p pos:Pos}(hn:n="range")(hg:glob sc n=true)(hL:isL as=true)(g:Good X G E as [a]):PI X tg (.Call (.Name n p) [a] [] pos) (tIt X.K G E .rng1 as):=by
 subst hn;obtain⟨k1,k2,k3⟩:=f00 hg;obtain⟨ha,hs⟩:=g.args hL;rw[Ã6,À] at hs;intro pins s σ H R I q;refine v21 (x.glb _ k1) (x.blt _ (-0)) ha (d30 hs.1 [] X.env) pins s σ H R I ?_
 obtain⟨zA,ρ,z,rr,rel,st,ee,po⟩:=q;refine⟨zA,ρ,z,rr,rel,st,ee,?_⟩;cases rr with
 |er c z1=>exact po
 |ok l z1 =>
  obtain⟨xs,hx,po⟩:=po;intro vs H1 x1 st1 rvs;obtain⟨ds,h1,h2⟩:=Q30 hx;have hd:=Q00 rvs h1
  match ds,h2 with
  |[.int j],h2 =>
   obtain⟨hj,h2⟩:=f30 h2;have hj:=G40.mp hj;cases h2;obtain⟨v,rfl,h3⟩:=hd.one;cases h3.j60;refine⟨j,rfl,by omega,by omega,po _ H1 x1 st1 λP B sub tup mv pa sf=>?_⟩
   have:=C11 (K:=X.K) (B:=B) 0 j.toNat;simpa using this
theorem C51(x:XI lm X G E N sc){tg a b:Ò}{as:Ex}{n:Str}{p pos:Pos}(hn:n="range")(hg:glob sc n=true)(hL:isL as=true)(g:Good X G E as [a,b]):PI X tg (.Call (.Name n p) [a,b] [] pos) (tIt X.K G E .rng2 as):=by
 subst hn;obtain⟨k1,k2,k3⟩:=f00 hg;obtain⟨ha,hs⟩:=g.args hL;rw[Ã6,Ã6,À,À] at hs;intro pins s σ H R I q;refine v31 (x.glb _ k1) (x.blt _ (-0)) ha (by rw[d30 hs.1,d30 hs.2.1];rfl) (d30 hs.2.1 [] X.env) pins s σ H R I ?_
 obtain⟨zA,ρ,z,rr,rel,st,ee,po⟩:=q;refine⟨zA,ρ,z,rr,rel,st,ee,?_⟩;cases rr with
 |er c z1=>exact po
 |ok l z1 =>
  obtain⟨xs,hx,po⟩:=po;intro vs H1 x1 st1 rvs;obtain⟨ds,h1,h2⟩:=Q30 hx;have hd:=Q00 rvs h1
  match ds,h2 with
  |[.int i,.int j],h2 =>
   obtain⟨hj,h2⟩:=f30 h2;have hi:=G40.mp hj.1;have hj:=G40.mp hj.2;cases h2;obtain⟨v,w,rfl,h3,h4⟩:=hd.two;cases h3.j60;cases h4.j60;exact⟨i,j,rfl,by omega,po _ H1 x1 st1 λP B sub tup mv pa sf=>C11 i (j - i).toNat⟩
theorem C61{s:S}{r:List S}{ds:List D}(h:plA (s::r)=some ds):∃ x q,ds=x::q/\plD s=some x/\plA r=some q:=by
 cases s with
 |d y =>
  obtain⟨q,e,rfl⟩:=Ì.mp h;exact⟨y,q,rfl,rfl,e⟩
 |fr y =>
  obtain⟨q,e,rfl⟩:=Ì.mp h;exact⟨_,q,rfl,rfl,e⟩
 |_=>cases h
theorem i62(h:plA l=some [x,y]):∃ s t,l=[s,t]/\plD s=some x/\plD t=some y:=by
 cases l with
 |nil=>cases h
 |cons s r =>
  obtain⟨_,_,e,h1,h2⟩:=C61 h;cases e;cases r with
  |nil=>cases h2
  |cons t r =>
   obtain⟨_,_,e,h3,h4⟩:=C61 h2;cases e;cases r with
   |nil=>exact⟨s,t,rfl,h1,h3⟩
   |cons u r =>
    obtain⟨_,_,e,_⟩:=C61 h4;cases e
theorem Q81{s t:S}(h:s11 [s]=true):s11 [s,t]=true:=by
 match s,h with
 |.d (.lst _),_=>rfl
theorem Q91{s t:S}(h:s11 [t]=true):s11 [s,t]=true:=by
 match s with
 |.d (.lst _)=>rfl|.d .non | .d (.bl _) | .d (.int _) | .d (.str _) | .d (.tup _) | .d .dct | .fr _ | .z=>exact h|.ks _=>exact h
theorem C71{K:Â}{zA:Option È}{H H1:Hp}{t:S}{v:V}{a:List D}(rv:RvS K zA H H1 t v)(h:plD t=some (.lst a)):∃ b ys,v=.ref b/\t70 K (hz zA H1) b ys/\HdA K (hz zA H1) a ys/\((H b=none/\H1 b=some (.lst ys))∨s11 [t]=true):=by
 cases t with
 |d x =>
  cases h;obtain⟨b,ys,rfl,k1,k2⟩:=Hd.b41 (show Hd K (hz zA H1) (.lst a) _ from rv);exact⟨b,ys,rfl,k1,k2,.inr rfl⟩
 |fr x =>
  cases h;obtain⟨b,ys,rfl,k0,k1,k2,k3⟩:=rv;exact⟨b,ys,rfl,t70.of (e00 k2 k1),k3.same (g20 b _),.inl ⟨k0,k2⟩⟩
 |_=>cases h
theorem C81(x:XI lm X G E N sc){tg a b:Ò}{as:Ex}{n:Str}{p pos:Pos}(ht:n40 tg=true)(hn:n="zip")(hg:glob sc n=true)(hL:isL as=true)(g:Good X G E as [a,b]):PI X tg (.Call (.Name n p) [a,b] [] pos) (tIt X.K G E .zip as):=by
 subst hn;obtain⟨k1,k2,k3⟩:=f00 hg;obtain⟨ha,hs⟩:=g.args hL;rw[Ã6,Ã6,À,À] at hs;cases tg with
 |Tuple es ek ep =>
  intro pins s σ H R I q;refine u32 (x.glb _ k1) (x.blt _ (-0)) ha (by rw[d30 hs.1,d30 hs.2.1];rfl) (d30 hs.2.1 [] X.env) pins s σ H R I ?_
  obtain⟨zA,ρ,z,rr,rel,st,ee,po⟩:=q;refine⟨zA,ρ,z,rr,rel,st,ee,?_⟩;cases rr with
  |er c z1=>exact po
  |ok l z1 =>
   obtain⟨xs,hx,po⟩:=po;intro vs H1 x1 st1 rvs;obtain⟨ds,h1,h2⟩:=Q30 hx;have hd:=Q00 rvs h1
   match ds,h2 with
   |[.tup a,.tup b],h2 =>
    cases h2;obtain⟨v,w,rfl,h3,h4⟩:=hd.two;obtain⟨p1,us,rfl,m1,m2⟩:=h3.E10;obtain⟨p2,ws,rfl,m3,m4⟩:=h4.E10;exact⟨false,p1,p2,rfl,⟨us,(a10 zA H1).sqT m1⟩,⟨ws,(a10 zA H1).sqT m3⟩,po _ H1 x1 st1 λP B sub tup mv pa sf=>C21 (λ_ x=>a30.sqT x (tup _ _ m1)) (HdA.move mv (show ∀ y∈a,P y from pa _ h1 _ Ç) m2) (λ_ x=>a30.sqT x (tup _ _ m3)) (HdA.move mv (show ∀ y∈b,P y from pa _ h1 _ (É _ Ç)) m4)⟩
   |[.lst a,.lst b],h2 =>
    cases h2;obtain⟨t1,t2,rfl,e1,e2⟩:=i62 h1;cases rvs with
    |cons rv1 rn =>
     cases rn with
     |cons rv2 rn =>
      cases rn;obtain⟨p1,us,rfl,m1,m2,m3⟩:=C71 rv1 e1;obtain⟨p2,ws,rfl,m4,m5,m6⟩:=C71 rv2 e2;refine⟨true,p1,p2,rfl,⟨us,(m1.same (a10 zA H1)).sq⟩,⟨ws,(m4.same (a10 zA H1)).sq⟩,po _ H1 x1 st1 λP B sub tup mv pa sf=>C21 (λ_ x=>((sf _ _ m1 (m3.imp id λq=>?_)).same x).sq) (HdA.move mv (show ∀ y∈a,P y from pa _ h1 _ Ç) m2) (λ_ x=>((sf _ _ m4 (m6.imp id λq=>?_)).same x).sq) (HdA.move mv (show ∀ y∈b,P y from pa _ h1 _ (É _ Ç)) m5)⟩
      ·exact Q81 q
      ·exact Q91 q
 |_=>cases ht
theorem k41:∀ {a:List D}{i n:Nat}{d:D},(E00 a n)[i]?=some d->∃ x,a[i]?=some x/\d=.tup [.int ((n + i:Nat):Int),x]
 |[],_,_,_,e=>by simp[E00] at e|x::r,0,n,d,e=>by simp[E00] at e;exact⟨x,rfl,e.symm⟩
 |x::r,i + 1,n,d,e=>by
  obtain⟨u,h1,h2⟩:=k41 (a:=r) (i:=i) (n:=n + 1) (by simpa [E00] using e)
  exact⟨u,by simpa using h1,by rw[h2,show n + 1 + i=n + (i + 1) by omega]⟩
theorem Q40:∀ (a:List D) (n:Nat),(E00 a n).length=a.length
 |[],_=>rfl|x::r,n=>by simp only[E00,Õ,Q40 r]
theorem k51(h:∀ H,a30 B H->SqB b X.K H a us)(r:HdA X.K B xs us):ItB X.K (Ite b X.K a) (E00 xs 0) B where
 go:=λi H x hi=>by
  rw[Q40] at hi;exact⟨us,us[i]'(by rw[r.length];omega),h H x,by simp⟩
 yld:=λi H v H' zA z d x st y e=>by
  obtain⟨T,rfl,hT,y⟩:=y;obtain⟨d1,e1,rfl⟩:=k41 e;obtain⟨w1,f1,g1⟩:=r.get e1;have y1:=y us w1 (h H (a30.trans x (a10 zA H))) f1;subst y1;have sm:a30 H (upd H T (.tup [.int i,w1])):=a30.new _ hT;exact⟨sm,λC c t=>Hd.tup (t _ _ ((st.same sm).W91 (SqT.of d10))) (.cons (by rw[Nat.zero_add];exact Hd.int) (.cons (g1.same c) .nil))⟩
 stop:=λH x=>⟨us,h H x,by rw[Q40,r.length]⟩
theorem i72(h:plA l=some [d]):∃ s,l=[s]:=by
 cases l with
 |nil=>cases h
 |cons s r =>
  cases r with
  |nil=>exact⟨s,rfl⟩|cons t q=>exfalso;cases s <;> cases t <;> first | (cases h;done) | (simp only[plA,Option.map_map,Ò7] at h;obtain⟨_,_,h⟩:=h;cases h)
theorem k61(x:XI lm X G E N sc){tg a:Ò}{as:Ex}{n:Str}{p pos:Pos}(ht:n40 tg=true)(hn:n="enumerate")(hg:glob sc n=true)(hL:isL as=true)(g:Good X G E as [a]):PI X tg (.Call (.Name n p) [a] [] pos) (tIt X.K G E .enum as):=by
 subst hn;obtain⟨k1,k2,k3⟩:=f00 hg;obtain⟨ha,hs⟩:=g.args hL;rw[Ã6,À] at hs;cases tg with
 |Tuple es ek ep =>
  intro pins s σ H R I q;refine f32 (x.glb _ k1) (x.blt _ (-0)) ha (d30 hs.1 [] X.env) pins s σ H R I ?_
  obtain⟨zA,ρ,z,rr,rel,st,ee,po⟩:=q;refine⟨zA,ρ,z,rr,rel,st,ee,?_⟩;cases rr with
  |er c z1=>exact po
  |ok l z1 =>
   obtain⟨xs,hx,po⟩:=po;intro vs H1 x1 st1 rvs;obtain⟨ds,h1,h2⟩:=Q30 hx;have hd:=Q00 rvs h1
   match ds,h2 with
   |[.tup a],h2 =>
    cases h2;obtain⟨v,rfl,h3⟩:=hd.one;obtain⟨p1,us,rfl,m1,m2⟩:=h3.E10;exact⟨false,p1,rfl,⟨us,(a10 zA H1).sqT m1⟩,po _ H1 x1 st1 λP B sub tup mv pa sf=>k51 (λ_ x=>a30.sqT x (tup _ _ m1)) (HdA.move mv (show ∀ y∈a,P y from pa _ h1 _ Ç) m2)⟩
   |[.lst a],h2 =>
    cases h2;have fin:∀ (b:È) (ys:List V),t70 X.K (hz zA H1) b ys->HdA X.K (hz zA H1) a ys->((H b=none/\H1 b=some (.lst ys))∨s11 l=true)->∃ bb p,[V.ref b]=[.ref p]/\(∃ xs,SqB bb X.K H1 p xs)/\R (Ite bb X.K p) H1:=λb ys k1 k2 k5 =>
     ⟨true,b,rfl,⟨ys,(k1.same (a10 zA H1)).sq⟩,po _ H1 x1 st1 λP B sub tup mv pa sf=>k51 (λ_ x=>((sf _ _ k1 k5).same x).sq) (HdA.move mv (show ∀ y∈a,P y from pa _ h1 _ Ç) k2)⟩
    obtain⟨t,rfl⟩:=i72 h1;cases rvs with
    |cons rv rn =>
     cases rn;cases t with
     |d x =>
      cases h1;obtain⟨b,ys,rfl,k1,k2⟩:=Hd.b41 (show Hd X.K (hz zA H1) (.lst a) _ from rv);exact fin _ _ k1 k2 (.inr rfl)
     |fr x =>
      cases h1;obtain⟨b,ys,rfl,k0,k1,k2,k3⟩:=rv;exact fin _ _ (t70.of (e00 k2 k1)) (k3.same (g20 b _)) (.inl ⟨k0,k2⟩)
     |_=>cases h1
 |_=>cases ht
abbrev EF:XK:=λ_ _ _=>False
def ttC(K:Â)(G:Gs):Ex->TT
 |.nil=>M61|.cons c _=>tT K G EF c|_=>λ_ _ _=>False
theorem s51(h:turns f (x::r) z=some (.ok ys z2)):∃ o z1 l,f x z=some (.ok o z1)/\turns f r z1=some (.ok l z2)/\ys=(match o with | some y=>y::l | none=>l):=by
 rcases M.bind_some (show M.bind (f x) _ z=_ from h) with ⟨o,z1,e1,e2⟩ | ⟨c,z1,e1,e2⟩
 ·rcases M.bind_some e2 with ⟨l,z3,e3,e4⟩ | ⟨c,z3,e3,e4⟩
  ·cases e4;exact⟨o,z1,l,e1,e3,rfl⟩
  ·cases e4
 ·cases e2
theorem i82{zA:Option È}{J:L2.It}{xs ys:List D}{H1:Hp}{z1 z2:Z}{p:Pat}{cond el:Ex}{ρ0:Env}{σ0:L2.St}{Q:VK}(IT:O02 X.K zA J xs H1)(hm:xs.length<=most)(rel0:E60 X.K zA H1 ρ0 σ0)(len:ρ0.length=σ0.length)(st1:f20 zA z1 H1)
  (hc:cond=.nil∨∃ c,cond=.cons c .nil) (e:turns (t60 (ev G.F cond) (ev G.F el) p ρ0) xs z1=some (.ok ys z2))
  (fin:∀ H2 vs l,Ext zA H1 H2->f20 zA z2 H2->HdA X.K (hz zA H2) ys vs->H2 l=none->Q (.ref l) (upd H2 l (.lst vs))):d22 J σ0 H1 (gP X.K p) (ttC X.K G cond) (tI X.K G EF el) Q:=by
 refine⟨λi m vs H=>m=xs.length - i/\i<=xs.length/\vs.length<=i/\∃ yd z rest,Ext zA H1 H/\f20 zA z H/\HdA X.K (hz zA H) yd vs/\turns (t60 (ev G.F cond) (ev G.F el) p ρ0) (xs.drop i) z=some (.ok rest z2)/\ys=yd++rest,
  ⟨xs.length,rfl,Æ6 _,Æ6 _,[],z1,ys,Ext.refl,st1,.nil,by simpa using e,rfl⟩,?_⟩
 rintro i m vs H ⟨rfl,hi,hv,yd,z,rest,x,st,hd,et,ey⟩;by_cases hlt:i < xs.length
 ·refine .inr ⟨IT.go i H x hlt,Î3 hv (Ý hlt (g60 hm)),
   λws H'=>ws.length<=i + 1/\∃ yd z rest,Ext zA H1 H'/\f20 zA z H'/\HdA X.K (hz zA H') yd ws/\turns (t60 (ev G.F cond) (ev G.F el) p ρ0) (xs.drop (i + 1)) z=some (.ok rest z2)/\ys=yd++rest,
   λws H' q=>⟨xs.length - (i + 1),by omega,rfl,hlt,q.1,q.2⟩,λv H' y=>?_⟩
  obtain⟨sm,hx⟩:=IT.yld i H v H' z xs[i] x st y (by simp[hlt])
  rw[É2 hlt] at et;obtain⟨o,z3,l,f1,f2,f3⟩:=s51 et;obtain⟨ρ',b1,f4⟩:=M.a20 (show M.bind (M.of (g30 p xs[i] ρ0)) _ z=_ from f1);have x':Ext zA H1 H':=x.trans (Ext.of sm);have st':=st.same sm;refine B91 b1 (rel0.mono x') len hx λσ' rel' len'=>?_;have yes:∀ {za:Z}{Ha:Hp},Ext zA H' Ha->f20 zA za Ha->M.bind (ev G.F el ρ') (λy=>M.bind (M.of (pl y)) λy=>M.ret (some y)) za=some (.ok o z3)->tI X.K G EF el σ' Ha (λy H4=>(vs++[y]).length<=i + 1/\∃ yd z rest,Ext zA H1 H4/\f20 zA z H4/\HdA X.K (hz zA H4) yd (vs++[y])/\turns (t60 (ev G.F cond) (ev G.F el) p ρ0) (xs.drop (i + 1)) z=some (.ok rest z2)/\ys=yd++rest):=λ{za Ha} xa sta ea=>by
   refine l40 (rel'.mono xa) sta ea (λc z1 h=>by cases h) λm z4 e4=>?_
   obtain⟨d,p1,e5⟩:=M.a20 e4;obtain⟨s1,rfl,q1⟩:=g50 p1;cases e5;refine⟨s1,rfl,λw H4 x4 st4 rv=>⟨by rw[ö];simp;omega,yd++[d],z3,l,(x'.trans xa).trans x4,st4,?_,f2,by rw[ey,f3,Ä1];rfl⟩⟩
   exact(hd.same (a30.trans (m30 sm) (a30.trans xa.same x4.same))).append (.cons (rv.pl.d_ q1) .nil)
  rcases hc with rfl | ⟨c,rfl⟩
  ·have f5:M.bind (ev G.F el ρ') (λy=>M.bind (M.of (pl y)) λy=>M.ret (some y)) z=some (.ok o z3):=f4;have ty:ttC X.K G .nil=M61:=rfl;rw[ty];refine O81 ?_;dsimp only;rw[if_pos rfl];exact yes Ext.refl st' f5
  ·rcases M.bind_some (show M.bind (ev G.F (.cons c .nil) ρ') _ z=_ from f4) with ⟨m,za,e1,e2⟩ | ⟨q,za,e1,e2⟩
   ·rcases M.bind_some (show M.bind (ev G.F c ρ') _ z=_ from e1) with ⟨m',zb,e3,e4⟩ | ⟨q,zb,e3,e4⟩
    ·obtain⟨s,hs,e5⟩:=M.a20 e4;cases e5;have hm':=H20 hs;subst hm';show tT X.K G EF c σ' H' _;have tb:∃ b,s=.d (.bl b):=by
      cases s with
      |d y=>cases y with
       |bl b=>exact⟨b,rfl⟩|_=>cases e2
      |_=>cases e2
     obtain⟨b,rfl⟩:=tb;refine⟨zA,ρ',z,_,rel',st',e3,b,rfl,λHa xa sta=>?_⟩;cases b with
     |true =>
      rw[if_pos rfl];exact yes xa sta e2
     |false =>
      rw[if_neg Í];cases e2;exact⟨Ù hv (le_succ _),yd,z3,l,x'.trans xa,sta,hd.same (a30.trans (m30 sm) xa),f2,by rw[ey,f3]⟩
    ·cases e4
   ·cases e2
 ·have hi':i=xs.length:=by omega
  subst hi';rw[drop_length] at et;cases et;refine .inl ⟨IT.stop H x,λl hl=>fin H vs l x st (by rw[ey,Ã0];exact hd) hl⟩
end
theorem k20{env:Ç8}{k0:Ë1}(hk:k0≠.free):∀ {names:List (Str × Ë1)}{x:Str},names.lookup x=some k0 ->
  (names.map λ(n,k)=>if (k == ñ&&env.scope.kind == .function&&env.kindOf n == some .cell) then(n,Æ0) else(n,k)).lookup x=some k0
 |[],_,h=>by simp at h
 |(n,k)::r,x,h=>by
  have ih:=@k20 env k0 hk r x;show Ì9 x ((if (k == ñ&&env.scope.kind == .function&&env.kindOf n == some .cell)=true then(n,Æ0) else(n,k))::_)=_;cases hx:x == n with
  |true =>
   simp only[À3,hx] at h;cases h;have:(k0 == ñ)=false:=by simpa using hk
   rw[this,Å5,Å5,if_neg Í];simp only[À3,hx]
  |false =>
   simp only[À3,hx] at h;by_cases hq:(k == ñ&&env.scope.kind == .function&&env.kindOf n == some .cell)=true
   ·rw[if_pos hq];simp only[À3,hx];exact ih h
   ·rw[if_neg hq];simp only[À3,hx];exact ih h
section
variable {lm:Bool}{X:Cx}{G:Gs}{E:XK}{N:List Str}{sc csc:Á2}{on:List Str}{cs:List (Str × Nat)}
structure q02(csc sc:Scope)(N on:List Str)(cs:List (Str × Nat)):Prop where
 kind:csc.kind=.function
 nocell:∀ y∈csc.names,y.2≠.cell
 locs:∀ y∈csc.names,y.2=.local->csc.names.lookup y.1=some .local
 frees:∀ y∈csc.names,y.2=.free->(sc.names.lookup y.1=some .cell∨sc.names.lookup y.1=some .free)
 captd:∀ p∈cs,N[p.2]?=some p.1/\csc.names.lookup p.1=some .free
 own:∀ x∈on,csc.names.lookup x=some .local
 nd:(on++cs.map (·.1)).Nodup
theorem A82(h:X10 csc sc N on cs=true):q02 csc sc N on cs:=by
 unfold X10 at h;simp only[À] at h;obtain⟨⟨⟨⟨⟨⟨h1,h2⟩,h3⟩,h4⟩,h5⟩,h6⟩,h7⟩:=h;rw[Á1] at h2 h3 h4 h5 h6;refine⟨by simpa using h1,λy hy=>by simpa using h2 y hy,λy hy hl=>?_,λy hy hf=>?_,λp hp=>by simpa using h5 p hp,λx hx=>by simpa using h6 x hx,of_decide_eq_true h7⟩
 ·have:=h3 y hy;rw[hl] at this;simpa using this
 ·have:=h4 y hy;rw[hf] at this;simpa using this
theorem C91(x:XI lm X G E N sc)(c:q02 csc sc N on cs):F90 X csc on cs:=⟨c.kind,c.nocell,c.locs,λy hy hf=>x.cel _ (c.frees y hy hf),λp hp=>by rw[x.hN];exact c.captd p hp⟩
theorem D01(x:XI lm X G E N sc)(c:q02 csc sc N on cs)(cl:List (Str × È))(C:È)(s:Æ)(H:Hp)(fp:List È):XI false (c90 X (e60 on cs) csc cl C s H fp) G EF (on++cs.map (·.1)) csc where
 gok:=x.gok
 num:=x.num
 blt:=x.blt
 hN:=rfl
 nd:=c.nd
 vis:=λy hy=>by
  rcases ó.mp hy with h | h
  ·exact .inl (k20 (-0) (c.own y h))
  ·obtain⟨p,hp,rfl⟩:=Ë.mp h;rcases s50 (env:=X.env) (c.captd p hp).2 with h | h
   ·exact .inr (.inl h)
   ·exact .inr (.inr h)
 glb:=λy hy=>k20 (-0) hy
 cel:=λy hy=>by
  rcases hy with h | h
  ·exact .inl (k20 (-0) h)
  ·exact s50 (env:=X.env) h
 calm:=x.calm
 room:=x.room
 pas:=v32
theorem R01(x:XI lm X G E N sc)(c:q02 csc sc N on cs)(cl:List (Str × È))(C:È)(s:Æ)(H:Hp)(fp:List È):Q71 (c90 X (e60 on cs) csc cl C s H fp) (on++cs.map (·.1)) (λy=>on.contains y) where
 hN:=rfl
 nd:=c.nd
 lc:=λy hy=>.inl (k20 (-0) (c.own y (by simpa using hy)))
 fn:=λy hy=>.inr (k20 (-0) (c.own y (by simpa using hy)))
 calm:=x.calm
theorem k71:∀ {capt:List Nat},(f60 N capt).length=capt.length->(f60 N capt).map (·.2)=capt
 |[],_=>rfl
 |i::r,h=>by
  have le:∀ l:List Nat,(f60 N l).length<=l.length:=by
   intro l
   induction l with
   |nil=>exact Ê _
   |cons j q ih =>
    unfold f60;split
    ·rw[Õ,Õ];omega
    ·rw[Õ];omega
  unfold f60 at h ⊢;split at h
  ·rename_i y hy;rw[Õ,Õ] at h;rw[È1,k71 ∅]
  ·have:=le r;rw[Õ] at h;omega
theorem R11(rel:E60 X.K zA H ρ σ)(h:cs.map (·.2)=capt):E60 X.K zA H (í on.length none++capt.map λi=>(ρ[i]?).getD none) (v00 on cs σ) /\
  (í on.length (none:Option S)++capt.map λi=>(ρ[i]?).getD none).length=(v00 on cs σ).length:=by
 subst h;constructor
 ·intro j s e;unfold v00;by_cases hj:j < on.length
  ·rw[Ï0 (by simpa using hj)] at e
   simp[Ñ2,hj] at e
  ·rw[Å4 (by simpa using hj),Þ1,ã,ã] at e
   rw[Å4 (by simpa using hj),Å,ã]
   cases hp:cs[j - on.length]? with
   |none=>rw[hp] at e;simp at e
   |some p =>
    rw[hp] at e;simp only[map_some,Ó1] at e;have e2:ρ[p.2]?=some (some s):=by
     cases hr:ρ[p.2]? with
     |none=>rw[hr] at e;cases e
     |some o=>rw[hr] at e;exact congrArg some e
    obtain⟨v,h1,h2⟩:=rel p.2 s e2;exact⟨v,by simp[h1],h2⟩
 ·unfold v00;simp
theorem e71(h:x70 e=true)(env:Ç8)(x:Ã):É0 e env x=pure x:=by
 cases e with
 |Set _ _ _=>cases h
 |_=>rfl
def L80(X:Cx)(G:Gs)(E:XK)(x:Ex)(elt tg iter:Ò)(ifs:List Ò)(csc:Á2):Prop:=∃ (own:List Str) (capt:List (Str × Nat)) (wi:TI) (g:TG) (tt:TT) (te:TE),F90 X csc own capt/\PI X tg iter wi /\
 (∀ cl C s H fp,PG (c90 X (e60 own capt) csc cl C s H fp) tg g)/\(∀ cl C s H fp,PTs (c90 X (e60 own capt) csc cl C s H fp) ifs tt)/\(∀ cl C s H fp,PE (c90 X (e60 own capt) csc cl C s H fp) elt te) /\
 (∀ x,É0 iter X.env x=pure x)/\∀ σ H Q,tI X.K G E x σ H Q->d32 own capt wi g tt te σ H Q
theorem O12(x:XI lm X G E N sc){p:Pat}{it:It}{src cond el:Ex}{capt:List Nat}{elt tg iter:Ò}{ifs:List Ò}(c:q02 csc sc N on cs)(hcap:cs.map (·.2)=capt)(hp:l50 (on++cs.map (·.1)) (λy=>on.contains y) p tg=true)
  (hi:PI X tg iter (tIt X.K G E it src)) (hns:x70 iter=true) (hc:(cond=.nil/\ifs=[])∨∃ q f,cond=.cons q .nil/\ifs=[f]/\∀ cl C s H fp,PT (c90 X (e60 on cs) csc cl C s H fp) f (tT X.K G EF q))
  (he:∀ cl C s H fp,PE (c90 X (e60 on cs) csc cl C s H fp) elt (tI X.K G EF el)):L80 X G E (.comp on.length capt p it src cond el) elt tg iter ifs csc:=by
 have ht:∀ cl C s H fp,PTs (c90 X (e60 on cs) csc cl C s H fp) ifs (ttC X.K G cond):=by
  rcases hc with ⟨rfl,rfl⟩ | ⟨q,f,rfl,rfl,h⟩
  ·exact λcl C s H fp=>c92
  ·exact λcl C s H fp=>d02 (h cl C s H fp)
 refine⟨on,cs,tIt X.K G E it src,gP X.K p,ttC X.K G cond,tI X.K G EF el,C91 x c,hi,λcl C s H fp=>B81 (R01 x c cl C s H fp) hp,ht,he,e71 hns X.env,λσ H Q q=>?_⟩;obtain⟨zA,ρ,z,rr,rel,st,e,po⟩:=q;have e0:M.bind (ev G.F src ρ) (λl=>M.bind (M.of ((plA l).bind (itD it))) λxs=>if xs.length<=most then M.bind (M.calm (turns (t60 (ev G.F cond) (ev G.F el) p (í on.length none++capt.map λi=>(ρ[i]?).getD none)) xs)) λys=>M.ret [.fr ys] else M.no) z=some rr:=e;rcases M.bind_some e0 with ⟨m,z1,e1,e2⟩ | ⟨k,z1,e1,e2⟩
 ·obtain⟨xs,hx,e3⟩:=M.a20 e2;refine⟨zA,ρ,z,_,rel,st,e1,xs,hx,λJ H1 x1 st1 IT'=>?_⟩;have IT:=IT'.ok;split at e3
  ·rename_i hm;rcases M.bind_some e3 with ⟨ys,z2,e4,e5⟩ | ⟨k,z2,e4,e5⟩
   ·cases e5;have e6:turns (t60 (ev G.F cond) (ev G.F el) p (í on.length none++capt.map λi=>(ρ[i]?).getD none)) xs z1=some (.ok ys z2):=by
     unfold M.calm at e4;split at e4
     ·rename_i h;cases e4;exact h
     ·cases e4
    obtain⟨r1,r2⟩:=R11 (on:=on) (rel.mono x1) hcap;refine i82 IT hm r1 r2 st1 (by rcases hc with ⟨h,_⟩ | ⟨q,_,h,_⟩;exact .inl h;exact .inr ⟨q,h⟩) e6 λH2 vs l x2 st2 hd hl=>?_
    exact f70 po (x1.trans x2) st2 _ _ (a30.new _ hl) (u20 st2 hd hl)
   ·unfold M.calm at e4;split at e4 <;> cases e4
  ·cases e3
 ·exact⟨zA,ρ,z,_,rel,st,e1,(h30 po) k z1 e2⟩
theorem L80.good(hc:X.calm=true)(h:L80 X G E x elt tg iter ifs csc):b00 X G E x (.ListComp elt [⟨tg,iter,ifs,0⟩] csc pos):=by
 obtain⟨own,capt,wi,g,tt,te,h1,h2,h3,h4,h5,h6,h7⟩:=h;exact b20 (PE.imp (d42 hc h1 h2 h3 h4 h5 h6) h7) rfl
theorem c10(h:(!isL x)=true):isL x=false:=by simpa using h
theorem D11(hL:isL x=true)(g:Good X G E x [e]):∃ a,x=.cons a .nil/\b00 X G E a e:=by
 cases x with
 |nil=>cases (show [e]=[] from g)
 |cons a r =>
  obtain⟨e',es,h,ns,ga,lr,gr⟩:=g;cases h;cases r with
  |nil=>exact⟨a,rfl,ga⟩|cons b q=>obtain⟨e,es,h,_⟩:=gr;cases h
  |_=>cases lr
 |_=>cases hL
theorem X50{lm:Bool}{G:Gs}{own:Nat}{capt:List Nat}{p:Pat}{it:It}{src cond el:Ex}(ihs:(∀ {X:Cx}{E:XK}{N:List Str}{sc:Á2},XI lm X G E N sc->∀ {es:List Ò},mt lm G.fns G.nums src sc N es=true->Good X G E src es))(ihc:(∀ {X:Cx}{E:XK}{N:List Str}{sc:Á2},XI false X G E N sc->∀ {es:List Ò},mt false G.fns G.nums cond sc N es=true->Good X G E cond es))(ihe:(∀ {X:Cx}{E:XK}{N:List Str}{sc:Á2},XI false X G E N sc->∀ {es:List Ò},mt false G.fns G.nums el sc N es=true->Good X G E el es))
  {X:Cx}{E:XK}{N:List Str}{sc:Á2} (x:XI lm X G E N sc) {elt tg iter:Ò}{ifs:List Ò}{csc:Á2} (h:(d60 tg).length == own&&(f60 N capt).length == capt.length&&X10 csc sc N (d60 tg) (f60 N capt)&&l50 (d60 tg++(f60 N capt).map (·.1)) (λx=>(d60 tg).contains x) p tg&&isL src&&!isL el&&isL cond&&ifs.length<=1&&noStar elt&&x70 iter&&ifs.all (λc=>!ifB c) &&
    (match it with
    |.seq=>mt lm G.fns G.nums src sc N [iter]|.rng1=>opt (p82 iter) λr=>r.1.1 == ("range":Str)&&glob sc r.1.1&&mt lm G.fns G.nums src sc N [r.1.2.2.1]|.rng2=>opt (p92 iter) λr=>r.1.1 == ("range":Str)&&glob sc r.1.1&&mt lm G.fns G.nums src sc N [r.1.2.2.1,r.1.2.2.2.1]|.zip=>opt (p92 iter) λr=>r.1.1 == ("zip":Str)&&glob sc r.1.1&&n40 tg&&mt lm G.fns G.nums src sc N [r.1.2.2.1,r.1.2.2.2.1]|.enum=>opt (p82 iter) λr=>r.1.1 == ("enumerate":Str)&&glob sc r.1.1&&n40 tg&&mt lm G.fns G.nums src sc N [r.1.2.2.1]
    )&&mt false G.fns G.nums cond csc (d60 tg++(f60 N capt).map (·.1)) ifs&&mt false G.fns G.nums el csc (d60 tg++(f60 N capt).map (·.1)) [elt]):L80 X G E (.comp own capt p it src cond el) elt tg iter ifs csc:=by
 simp only[À,beq_iff_eq,decide_eq_true_eq] at h;obtain⟨⟨⟨⟨⟨⟨⟨⟨⟨⟨⟨⟨⟨h1,h2⟩,h3⟩,h4⟩,h5⟩,h6⟩,h7⟩,h8⟩,h9⟩,h10⟩,h11⟩,h12⟩,h13⟩,h14⟩:=h;subst h1;have c:=A82 h3;have hi:PI X tg iter (tIt X.K G E it src):=by
  cases it with
  |seq =>
   obtain⟨a,rfl,ga⟩:=D11 h5 (ihs x h12);exact Y11 ga
  |rng1 =>
   obtain⟨⟨⟨n,_,a,_⟩,rfl⟩,-,h12⟩:=a50 h12;simp only[À,beq_iff_eq] at h12;exact C41 x h12.1.1 h12.1.2 h5 (ihs x h12.2)
  |rng2 =>
   obtain⟨⟨⟨n,_,a,b,_⟩,rfl⟩,-,h12⟩:=a50 h12;simp only[À,beq_iff_eq] at h12;exact C51 x h12.1.1 h12.1.2 h5 (ihs x h12.2)
  |zip =>
   obtain⟨⟨⟨n,_,a,b,_⟩,rfl⟩,-,h12⟩:=a50 h12;simp only[À,beq_iff_eq] at h12;exact C81 x h12.1.2 h12.1.1.1 h12.1.1.2 h5 (ihs x h12.2)
  |enum =>
   obtain⟨⟨⟨n,_,a,_⟩,rfl⟩,-,h12⟩:=a50 h12;simp only[À,beq_iff_eq] at h12;exact k61 x h12.1.2 h12.1.1.1 h12.1.1.2 h5 (ihs x h12.2)
 have hc:(cond=.nil/\ifs=[])∨∃ q f,cond=.cons q .nil/\ifs=[f]/\∀ cl C s H fp,PT (c90 X (e60 (d60 tg) (f60 N capt)) csc cl C s H fp) f (tT X.K G EF q):=by
  match ifs,h8,h11,h13 with
  |[],_,_,h13 =>
   cases cond with
   |nil=>exact .inl ⟨rfl,rfl⟩|cons a r=>cases h13
   |_=>cases h7
  |[f],_,h11,h13 =>
   cases cond with
   |nil=>cases h13
   |cons a r =>
    have h13':(noStar f&&!isL a&&isL r&&mt false G.fns G.nums a csc (d60 tg++(f60 N capt).map (·.1)) [f]&&mt false G.fns G.nums r csc (d60 tg++(f60 N capt).map (·.1)) [])=true:=h13;simp only[À] at h13';have rn:r=.nil:=by
     cases r with
     |nil=>rfl|cons b q=>cases h13'.2
     |_=>cases h13'.1.1.2
    subst rn;simp only[Ã6,all_nil,Æ8] at h11;refine .inr ⟨a,f,rfl,rfl,λcl C s H fp=>?_⟩;obtain⟨e',es,he,ns,ga,lr,gr⟩:=ihc (D01 x c cl C s H fp) h13;cases he;exact ga.pt (i32 h11)
   |_=>cases h7
 refine O12 x c (k71 h2) h4 hi h10 hc λcl C s H fp=>?_;exact(a90 (c10 h6) (ihe (D01 x c cl C s H fp) h14)).pe
theorem H40{K:Â}{H H1:Hp}(sm:a30 H H1):∀ {l:List D}{ys:List V}{kss:List (List Int)},HdA K H l ys->z91 l=some kss->Ä5 (λy ks=>∃ b,y=V.ref b/\SqT K H1 b (ks.map V.int)) ys kss
 |[],_,_,h,e=>by rw[h.g40];cases e;exact .nil
 |d::l,_,_,h,e=>by
  obtain⟨v,r,rfl,h1,h2⟩:=h.c50;obtain⟨k,e1,e2⟩:=Ï.mp (show(p52 d).bind _=_ from e);obtain⟨q,e3,rfl⟩:=Ì.mp e2;refine .cons ?_ (H40 sm h2 e3);cases d with
  |tup t =>
   obtain⟨b,xs,rfl,k1,k2⟩:=h1.E10;obtain⟨rfl,_⟩:=G90 (show A50 t=some k from e1) k2;exact⟨b,rfl,sm.sqT k1⟩
  |_=>cases e1
theorem O22{K:Â}{zA:Option È}{z:Z}{H:Hp}{d:È}{kss:List (List Int)}(st:f20 zA z H)(hd:zA≠some d)(h:r51 K H d kss):r51 K (hz zA H) d kss:=by
 obtain⟨xs,h1,h2,h3,h4⟩:=h;exact⟨xs,e00 h1 hd,h2,λx hx=>st.W91 (h3 x hx),h4⟩
theorem O32{n:Str}(h:c70 n=true):(n == ("__debug__":Str))=false:=by
 unfold c70 at h;simp only[À,á] at h;exact h.1
theorem i92(x:XI lm X G E N sc){a:Ex}{n:Str}{p1 p2 px ps:Pos}{k:Nat}{iter:Ò}(c:q02 csc sc N [n] [])(hd:c70 n=true)(hns:x70 iter=true)(ga:b00 X G E a iter):b00 X G E (.dkeys a) (.DictComp (.Name n p1) (.Constant (.bool true) k p2) [⟨.Name n px,iter,[],0⟩] csc ps):=by
 refine b20 (PE.imp (P11 x.calm (Nat.lt_of_succ_lt (c82 x.room)) (C91 x c) (c.own n Ç) (O32 hd) ga.pe (e71 hns X.env)) λσ H Q q=>?_) rfl;obtain⟨zA,ρ,z,rr,rel,st,e,po⟩:=q;refine l40 rel st e (h30 po) λm z1 e1=>?_;obtain⟨kss,g1,e2⟩:=M.a20 e1;obtain⟨d,h1,h2⟩:=Ï.mp g1;obtain⟨s1,rfl,q1⟩:=g50 h1;cases e2;refine⟨s1,rfl,λv H1 x1 st1 rv=>?_⟩;cases d with
 |lst l =>
  obtain⟨b,ys,rfl,k1,k2⟩:=(rv.pl.d_ q1).b41;exact⟨b,ys,kss,rfl,(k1.same (a10 zA H1)).sq,H40 (a10 zA H1) k2 h2,λd H2 sm hn ok=>f70 po x1 st1 _ _ sm ⟨d,rfl,O22 (st1.same sm) (st1.j41 hn) ok⟩⟩
 |_=>cases h2
theorem A92(o:Bool)(x:XI lm X G E N sc){a:Ex}{i:Nat}{e:Ò}{n:Str}{p pos:Pos}(h1:N[i]?=some n)(h2:c70 n=true)(ga:b00 X G E a e):b00 X G E (.memk o a i) (.Compare e [G12 o] [.Name n p] pos):=by
 have h2':=h2;unfold c70 at h2';simp only[À,á] at h2';have pv:=w90 (X:=X) (i:=i) (pos:=p) (by rw[x.hN];exact h1) (x.vis n (ô h1)) h2'.1 h2'.2
 suffices key:∀ σ H Q,tI X.K G E (.memk o a i) σ H Q->tOp (v42 X.K o) (tI X.K G E a) (r02 i) σ H Q by
  refine⟨PE.imp (v41 (z31 o (c82 x.room)) ga.pe pv rfl) key,λ_=>PT.imp (v51 (z31 o (c82 x.room)) ga.pe pv rfl) λσ H Q q=>?_,λop vs p h=>by cases h⟩
  obtain⟨zA,ρ,z,rr,rel,st,e,po⟩:=q;exact key σ H _ ⟨zA,ρ,z,rr,rel,st,e,B31 po⟩
 intro σ H Q q;obtain⟨zA,ρ,z,rr,rel,st,e,po⟩:=q;refine l40 rel st e (h30 po) λm z1 e1=>?_;obtain⟨k,g1,e2⟩:=M.a20 e1;obtain⟨d,h3,h4⟩:=Ï.mp g1;obtain⟨s1,rfl,q1⟩:=g50 h3;obtain⟨kss,g2,e3⟩:=M.a20 e2;cases e3;refine⟨s1,rfl,λv H1 x1 st1 rv=>?_⟩;have hr:ρ[i]?=some (some (.ks kss)):=by
  unfold K62 at g2;split at g2
  ·cases g2;assumption
  ·cases g2
 obtain⟨w,w1,w2⟩:=(rel.mono x1) i _ hr;obtain⟨b,rfl,ok⟩:=w2;cases d with
 |tup t =>
  obtain⟨c,xs,rfl,k1,k2⟩:=(rv.pl.d_ q1).E10;obtain⟨rfl,_⟩:=G90 (show A50 t=some k from h4) k2;have ok':r51 X.K H1 b kss:=ok.same (a10 zA H1);refine⟨_,w1,c,k,b,kss,rfl,rfl,(a10 zA H1).sqT k1,ok',?_⟩;have eq:kss.contains k=decide (k∈kss):=by rw[À0];simp
  have:=f70 po x1 st1 _ _ (a30.refl H1) (i50 (b:=kss.contains k == o));rw[eq] at this;exact this
 |_=>cases h4
theorem B02:∀ (t:Ex) {lm:Bool}{G:Gs}{X:Cx}{E:XK}{N:List Str}{sc:Á2},XI lm X G E N sc->∀ {es:List Ò},mt lm G.fns G.nums t sc N es=true->Good X G E t es:=by
 intro t
 induction t with
 |nil =>
  intro lm G X E N sc x es h;exact Ñ1.mp h
 |cons a r iha ihr =>
  intro lm G X E N sc x es h;cases es with
  |nil=>cases h
  |cons e es =>
   have h:(noStar e&&!isL a&&isL r&&mt lm G.fns G.nums a sc N [e]&&mt lm G.fns G.nums r sc N es)=true:=h;simp only[À] at h;obtain⟨⟨⟨⟨h1,h2⟩,h3⟩,h4⟩,h5⟩:=h;exact⟨e,es,rfl,h1,a90 (c10 h2) (iha x h4),h3,ihr x h5⟩
 |var i =>
  intro lm G X E N sc x es h;obtain⟨⟨q,rfl⟩,-,h⟩:=a50 h;simp only[À,beq_iff_eq] at h;exact c40 rfl (M42 x h.1 h.2)
 |con d =>
  intro lm G X E N sc x es h;rcases (Â9 _ _).mp h with h | h
  ·obtain⟨⟨q,rfl⟩,-,h⟩:=a50 h;exact c40 rfl (M52 h)
  ·obtain⟨⟨p,rfl⟩,-,h⟩:=a50 h;cases d with
   |dct=>exact c40 rfl M62|_=>cases h
 |gint g i =>
  intro lm G X E N sc x es h;obtain⟨⟨⟨n,p⟩,rfl⟩,-,h⟩:=a50 h;simp only[À,beq_iff_eq,Ì8] at h;obtain⟨⟨rfl,h2⟩,h3⟩:=h;exact c40 rfl (y82 x h2 h3)
 |tup as ih =>
  intro lm G X E N sc x es h;obtain⟨⟨q,rfl⟩,-,h⟩:=a50 h;simp only[À] at h;exact c40 rfl (M72 h.1 (ih x h.2))
 |lst as ih =>
  intro lm G X E N sc x es h;obtain⟨⟨q,rfl⟩,-,h⟩:=a50 h;simp only[À] at h;exact c40 rfl (M82 h.1 (ih x h.2))
 |bin o a b iha ihb =>
  intro lm G X E N sc x es h;obtain⟨⟨⟨l,op,r,p⟩,rfl⟩,-,h⟩:=a50 h;simp only[À,beq_iff_eq] at h;obtain⟨⟨⟨⟨rfl,h2⟩,h3⟩,h4⟩,h5⟩:=h;exact c40 rfl (M92 (a90 (c10 h2) (iha x h4)) (a90 (c10 h3) (ihb x h5)))
 |cmp o a b iha ihb =>
  intro lm G X E N sc x es h;obtain⟨⟨⟨l,op,r,p⟩,rfl⟩,-,h⟩:=a50 h;simp only[À,beq_iff_eq] at h;obtain⟨⟨⟨⟨⟨rfl,h1⟩,h2⟩,h3⟩,h4⟩,h5⟩:=h;exact c40 rfl (N02 x h1 (a90 (c10 h2) (iha x h4)) (a90 (c10 h3) (ihb x h5)))
 |neg a ih =>
  intro lm G X E N sc x es h;obtain⟨⟨q,rfl⟩,-,h⟩:=a50 h;simp only[À] at h;exact c40 rfl (N12 (a90 (c10 h.1) (ih x h.2)))
 |not a ih =>
  intro lm G X E N sc x es h;obtain⟨⟨q,rfl⟩,-,h⟩:=a50 h;simp only[À] at h;obtain⟨⟨h1,h2⟩,h3⟩:=h;exact c40 rfl (N22 (a90 (c10 h1) (ih x h3)) (i32 h2))
 |and a b iha ihb =>
  intro lm G X E N sc x es h;obtain⟨⟨⟨l,r,vs,p⟩,rfl⟩,-,h⟩:=a50 h;simp only[À] at h;obtain⟨⟨⟨⟨h1,h2⟩,h3⟩,h4⟩,h5⟩:=h;refine c40 rfl (N32 (a90 (c10 h1) (iha x h4)) (i32 h3) ?_);cases vs with
  |nil =>
   rw[if_pos (show([]:List Ò).isEmpty=true from rfl),À] at h5;exact y92 (a90 (c10 h2) (ihb x h5.2)) (i32 h5.1)
  |cons v vs =>
   rw[if_neg (by exact Í)] at h5
   exact a90 (c10 h2) (ihb x h5)
 |or a b iha ihb =>
  intro lm G X E N sc x es h;obtain⟨⟨⟨l,r,vs,p⟩,rfl⟩,-,h⟩:=a50 h;simp only[À] at h;obtain⟨⟨⟨⟨h1,h2⟩,h3⟩,h4⟩,h5⟩:=h;refine c40 rfl (Z42 (a90 (c10 h1) (iha x h4)) (i32 h3) ?_);cases vs with
  |nil =>
   rw[if_pos (show([]:List Ò).isEmpty=true from rfl),À] at h5;exact y92 (a90 (c10 h2) (ihb x h5.2)) (i32 h5.1)
  |cons v vs =>
   rw[if_neg (by exact Í)] at h5
   exact a90 (c10 h2) (ihb x h5)
 |orT a b iha ihb =>
  intro lm G X E N sc x es h;obtain⟨⟨⟨l,r,vs,p⟩,rfl⟩,-,h⟩:=a50 h;simp only[À] at h;obtain⟨⟨⟨⟨h1,h2⟩,h3⟩,h4⟩,h5⟩:=h;cases vs with
  |nil=>exact c40 rfl (N42 (a90 (c10 h1) (iha x h4)) (a90 (c10 h2) (ihb x h5)))|cons v vs=>cases h3
 |ite c a b ihc iha ihb =>
  intro lm G X E N sc x es h;obtain⟨⟨q,rfl⟩,-,h⟩:=a50 h;simp only[À] at h;obtain⟨⟨⟨⟨⟨⟨h1,h2⟩,h3⟩,h4⟩,h5⟩,h6⟩,h7⟩:=h;exact c40 rfl (N52 (a90 (c10 h1) (ihc x h5)) (i32 h4) (a90 (c10 h2) (iha x h6)) (a90 (c10 h3) (ihb x h7)))
 |ch o o' a b c iha ihb ihc =>
  intro lm G X E N sc x es h;obtain⟨⟨⟨l,op,op',r,s,p⟩,rfl⟩,-,h⟩:=a50 h;simp only[À,beq_iff_eq] at h;obtain⟨⟨⟨⟨⟨⟨⟨⟨rfl,rfl⟩,h1⟩,h2⟩,h3⟩,h4⟩,h5⟩,h6⟩,h7⟩:=h;exact c40 rfl (Z52 x h1 (a90 (c10 h2) (iha x h5)) (a90 (c10 h3) (ihb x h6)) (a90 (c10 h4) (ihc x h7)))
 |bf f as ih =>
  intro lm G X E N sc x es h;obtain⟨⟨q,rfl⟩,-,h⟩:=a50 h;simp only[À,beq_iff_eq] at h;obtain⟨⟨⟨⟨h1,h2⟩,h3⟩,h4⟩,h5⟩:=h;exact c40 rfl (Z62 x h1 h2 h3 h4 (ih x h5))
 |isi t a ih =>
  intro lm G X E N sc x es h;obtain⟨⟨⟨n,q,e,ty,p⟩,rfl⟩,-,h⟩:=a50 h;simp only[À,beq_iff_eq] at h;obtain⟨⟨⟨⟨⟨h1,h2⟩,h3⟩,h4⟩,h5⟩,h6⟩:=h;have g:=a90 (c10 h4) (ih x h5);refine c40 rfl ?_;have one:∀ t:Ty,t≠.seq->(opt (shN ty) λq=>q.1.1 == Â2 (tyN t)&&glob sc (Â2 (tyN t)))=true->b00 X G E (.isi t a) (.Call (.Name n q) [e,ty] [] p):=λt hs h6=>by
   obtain⟨⟨⟨a,_⟩,rfl⟩,-,h6⟩:=a50 h6;simp only[À,beq_iff_eq] at h6;obtain⟨rfl,k1⟩:=h6;exact A02 x hs k1 h1 h2 h3 g
  cases t with
  |seq =>
   obtain⟨⟨⟨a,_,b,_,_,_⟩,rfl⟩,-,h6⟩:=a50 h6;simp only[À,beq_iff_eq] at h6;obtain⟨⟨⟨rfl,rfl⟩,k1⟩,k2⟩:=h6;exact A12 x k1 k2 h1 h2 h3 g
  |_=>exact one _ (λh=>by cases h) h6
 |idx a i iha ihi =>
  intro lm G X E N sc x es h;obtain⟨⟨q,rfl⟩,-,h⟩:=a50 h;simp only[À] at h;obtain⟨⟨⟨⟨h1,h2⟩,h3⟩,h4⟩,h5⟩:=h;exact c40 rfl (N72 h1 (a90 (c10 h2) (iha x h4)) (a90 (c10 h3) (ihi x h5)))
 |sl a lo hi iha ihl ihh =>
  intro lm G X E N sc x es h;obtain⟨⟨q,rfl⟩,-,h⟩:=a50 h;simp only[À] at h;obtain⟨⟨⟨⟨⟨h1,h2⟩,h3⟩,h4⟩,h5⟩,h6⟩:=h;exact c40 rfl (Z72 (a90 (c10 h1) (iha x h4)) h2 h3 (ihl x h5) (ihh x h6))
 |call f as ih =>
  intro lm G X E N sc x es h;obtain⟨⟨⟨n,q,e,l,p⟩,rfl⟩,-,h⟩:=a50 h;simp only[À] at h;obtain⟨⟨⟨h1,h2⟩,h3⟩,h4⟩:=h;obtain⟨pr,hf,h1'⟩:=a50 h1;simp only[À,beq_iff_eq] at h1';obtain⟨rfl,h7⟩:=h1';exact c40 rfl (s_call x hf h7 h2 h3 (ih x h4))
 |comp own capt p it src cond el ihs ihc ihe =>
  intro lm G X E N sc x es h;obtain⟨⟨q,rfl⟩,-,h⟩:=a50 h;exact c40 rfl ((X50 ihs ihc ihe x h).good x.calm)
 |lrng b as ih =>
  intro lm G X E N sc x es h;obtain⟨⟨⟨n,p,m,q,a,r,t⟩,rfl⟩,-,h⟩:=a50 h;simp only[À,beq_iff_eq] at h;obtain⟨⟨⟨⟨⟨⟨h1,h2⟩,h3⟩,h4⟩,h5⟩,h7⟩,h6⟩:=h;subst h1;subst h2;cases a with
  |nil=>simp at h7|cons a l=>exact c40 rfl (A42 x h3 h4 h5 (ih x h6))
 |dkeys a ih =>
  intro lm G X E N sc x es h;obtain⟨⟨q,rfl⟩,-,h⟩:=a50 h;simp only[À] at h;obtain⟨⟨⟨⟨h1,h2⟩,h3⟩,h4⟩,h5⟩:=h;exact c40 rfl (i92 x (A82 h1) h2 h3 (a90 (c10 h4) (ih x h5)))
 |memk o a i ih =>
  intro lm G X E N sc x es h;obtain⟨⟨q,rfl⟩,-,h⟩:=a50 h;simp only[À,beq_iff_eq] at h;obtain⟨⟨⟨h1,h2⟩,h3⟩,h4⟩:=h;exact c40 rfl (A92 o x h1 h2 (a90 (c10 h3) (ih x h4)))
 |zget i k =>
  intro lm G X E N sc x es h;obtain⟨⟨⟨n,p,j,c,q,r⟩,rfl⟩,-,h⟩:=a50 h;simp only[À,beq_iff_eq] at h;obtain⟨⟨h1,h2⟩,h3⟩:=h;have h3:j=(k:Int):=h3;subst h3;exact c40 rfl (A22 x h1 h2)
theorem sound(G:Gs)(t:Ex)(x:XI lm X G E N sc)(h:mt lm G.fns G.nums t sc N es=true):Good X G E t es:=B02 t x h
end
open Classical in
def hw(ow:Nat->Option È)(H:Hp):Hp:=λb=>if ∃ i,ow i=some b then none else H b
section
variable {K:Â}{ow:Nat->Option È}{H H':Hp}
theorem i90:a30 (hw ow H) H:=λb o e=>by
 unfold hw at e;split at e
 ·cases e
 ·exact e
theorem j70(h:H b=some o)(n:∀ i,ow i≠some b):hw ow H b=some o:=by
 unfold hw;rw[if_neg (λ⟨i,e⟩=>n i e)];exact h
theorem H50(h:hw ow H b=some o):H b=some o/\∀ i,ow i≠some b:=by
 refine⟨i90 b o h,λi e=>?_⟩;unfold hw at h;rw[if_pos ⟨i,e⟩] at h;cases h
theorem d90(e:a30 H H'):a30 (hw ow H) (hw ow H'):=λb o h=>by
 obtain⟨h1,h2⟩:=H50 h;exact j70 (e b o h1) h2
theorem q60:hw (λ_=>none) H=H:=by
 funext b
 unfold hw;rw[if_neg (λ⟨i,e⟩=>by cases e)]
theorem k81(h:SqT K H a xs)(hl:∀ i b,ow i=some b->∃ ys,H b=some (.lst ys)):SqT K (hw ow H) a xs:=by
 rcases h with (h | ⟨o,h⟩) | h
 ·refine .inl (.inl (j70 h λi e=>?_));obtain⟨ys,q⟩:=hl i a e;rw[h] at q;cases q
 ·refine .inl (.inr ⟨o,j70 h λi e=>?_⟩);obtain⟨ys,q⟩:=hl i a e;rw[h] at q;cases q
 ·exact .inr h
mutual
theorem Q50(hl:∀ i b,ow i=some b->∃ ys,H b=some (.lst ys)):∀ {d:D}{v:V},bare d=true->Hd K H d v->Hd K (hw ow H) d v
 |.non,_,_,h=>by rw[h.G32];exact Hd.non|.bl _,_,_,h=>by rw[h.bl_];exact Hd.bl|.int _,_,_,h=>by rw[h.j60];exact Hd.int|.str _,_,_,h=>by rw[h.K72];exact Hd.str
 |.tup l,_,b,h=>by
  obtain⟨a,xs,rfl,h1,h2⟩:=h.E10;exact Hd.tup (k81 h1 hl) (E70 hl (by simpa [bare] using b) h2)
 |.lst _,_,b,_=>by cases b
 |.dct,_,b,_=>by cases b
theorem E70(hl:∀ i b,ow i=some b->∃ ys,H b=some (.lst ys)):∀ {ds:List D}{vs:List V},h20 ds=true->HdA K H ds vs->HdA K (hw ow H) ds vs
 |[],_,_,h=>by rw[h.g40];exact .nil
 |d::ds,_,b,h=>by
  obtain⟨x,r,rfl,h1,h2⟩:=h.c50;simp only[h20,À] at b;exact .cons (Q50 hl b.1 h1) (E70 hl b.2 h2)
end
theorem O42(hl:∀ i b,ow i=some b->∃ ys,H b=some (.lst ys)){d:È}{kss:List (List Int)}(h:r51 K H d kss):r51 K (hw ow H) d kss:=by
 obtain⟨xs,h1,h2,h3,h4⟩:=h;refine⟨xs,j70 h1 λi e=>?_,h2,λx hx=>k81 (h3 x hx) hl,h4⟩;obtain⟨ys,q⟩:=hl i d e;rw[h1] at q;cases q
end
def RvW(K:Â)(zA:Option È)(ow:Nat->Option È)(H:Hp)(i:Nat):S->V->Prop
 |.d x,v=>ow i=none/\Hd K (hw ow (hz zA H)) x v|.fr xs,v=>∃ a ys,ow i=some a/\v=.ref a/\H a=some (.lst ys)/\HdA K (hw ow (hz zA H)) xs ys|.z,v=>ow i=none/\∃ a,zA=some a/\v=.ref a|.ks l,v=>ow i=none/\∃ d,v=.ref d/\r51 K (hw ow (hz zA H)) d l
structure RW(K:PySem.W.Frag)(H0:Hp)(zE zA:Option Addr)(ow:Nat->Option Addr)(H:Hp)(ρ:Env)(σ:L2.St):Prop where
 len:ρ.length=σ.length
 inj:∀ i j a,ow i=some a->ow j=some a->i=j
 zne:∀ i a,ow i=some a->zA≠some a
 own:∀ i a,ow i=some a->∃ xs,ρ[i]?=some (some (.fr xs))
 wor:∀ i s,ρ[i]?=some (some s)->∃ v,σ[i]?=some (some v)/\RvW K zA ow H i s v
 ext:Ext zE H0 H
 zok:zA=zE∨(zE=none/\∀ a,zA=some a->H0 a=none)
 new:∀ i a,ow i=some a->H0 a=none
section
variable {K:Â}{H0 H H':Hp}{zE zA:Option È}{ow:Nat->Option È}{ρ:Env}{σ:L2.St}
theorem RW.lst(r:RW K H0 zE zA ow H ρ σ):∀ i a,ow i=some a->∃ ys,H a=some (.lst ys):=λi a e=>by
 obtain⟨xs,h⟩:=r.own i a e;obtain⟨v,h1,a',ys,h2,h3,h4,h5⟩:=r.wor i _ h;rw[e] at h2;cases h2;exact⟨ys,h4⟩
theorem RW.Y21(r:RW K H0 zE zA ow H ρ σ):∀ i a,ow i=some a->∃ ys,hz zA H a=some (.lst ys):=λi a e=>by
 obtain⟨ys,h⟩:=r.lst i a e;exact⟨ys,e00 h (r.zne i a e)⟩
theorem RvW.pl{i:Nat}{s:S}{v:V}(h:RvW K zA ow H i s v)(hz':∀ a,ow i=some a->zA≠some a):RvP K zA H s v:=by
 cases s with
 |d x=>exact h.2.same i90|z=>exact h.2|ks l=>obtain⟨_,d,q,k⟩:=h;exact⟨d,q,k.same i90⟩
 |fr xs =>
  obtain⟨a,ys,h1,rfl,h3,h4⟩:=h;exact Hd.lst (e00 h3 (hz' a h1)) (h4.same i90)
theorem RW.X60(r:RW K H0 zE zA ow H ρ σ):E60 K zA H ρ σ:=λi s e=>by
 obtain⟨v,h1,h2⟩:=r.wor i s e;exact⟨v,h1,h2.pl λa q=>r.zne i a q⟩
theorem RvW.mono{i:Nat}{s:S}{v:V}(h:RvW K zA ow H i s v)(hz':∀ a,ow i=some a->zA≠some a)(x:Ext zA H H'):RvW K zA ow H' i s v:=by
 cases s with
 |d y=>exact⟨h.1,h.2.same (d90 x)⟩|z=>exact h|ks l=>obtain⟨n,d,q,k⟩:=h;exact⟨n,d,q,k.same (d90 x)⟩
 |fr xs =>
  obtain⟨a,ys,h1,rfl,h3,h4⟩:=h;exact⟨a,ys,h1,rfl,x.at h3 (hz' a h1),h4.same (d90 x)⟩
theorem Y31(zA:Option È)(H:Hp):a30 (hz zA H) (hz none H):=λ_ _ h=>e00 (v60 h).1 (λq=>nomatch q) (x40 h)
theorem D21(e:Ext zE H0 H)(zok:zA=zE∨(zE=none/\∀ a,zA=some a->H0 a=none))(x:Ext zA H H'):Ext zE H0 H':=by
 rcases zok with rfl | ⟨rfl,hn⟩
 ·exact e.trans x
 ·refine⟨λb o h=>?_,λb ps h=>let ⟨qs,q⟩:=e.tbl b ps h;x.tbl b qs q⟩;have h1:=e.same b o h;refine e00 (x.at (v60 h1).1 (λq=>?_) (x40 h1)) (λq=>nomatch q) (x40 h1);have h0:=(v60 h).1;rw[hn b q] at h0;cases h0
theorem RW.mono(r:RW K H0 zE zA ow H ρ σ)(x:Ext zA H H'):RW K H0 zE zA ow H' ρ σ :=
 ⟨r.len,r.inj,r.zne,r.own,λi s e=>let ⟨v,h1,h2⟩:=r.wor i s e;⟨v,h1,h2.mono (λa q=>r.zne i a q) x⟩,D21 r.ext r.zok x,r.zok,r.new⟩
theorem RW.young(r:RW K H0 zE zA ow H ρ σ)(h:H a=none)(n:zA≠some a):H0 a=none/\zE≠some a:=by
 have hE:zE≠some a:=λq=>by
  rcases r.zok with rfl | ⟨rfl,_⟩
  ·exact n q
  ·cases q
 exact⟨r.ext.free h hE,hE⟩
theorem RW.out(r:RW K H0 zE zA ow H ρ σ){s:S}{v:V}(hs:s≠.z)(x:Ext zA H H')(h:RvS K zA H H' s v):RvS K zE H0 H' s v:=by
 have sm:a30 (hz zA H') (hz zE H'):=by
  rcases r.zok with rfl | ⟨rfl,_⟩
  ·exact a30.refl _
  ·exact Y31 _ _
 cases s with
 |d y=>exact Hd.same sm h|z=>exact absurd rfl hs|ks l=>obtain⟨d,q,k⟩:=h;exact⟨d,q,k.same sm⟩
 |fr xs =>
  obtain⟨a,ys,rfl,h1,h2,h3,h4⟩:=h;obtain⟨k1,k2⟩:=r.young h1 h2;exact⟨a,ys,rfl,k1,k2,h3,h4.same (G20 λb o _ q=>sm b o q)⟩
theorem RW.Z82(r:RW K H0 zE zA ow H ρ σ){i:Nat}{s:S}(hs:s≠.z)(e:ρ[i]?=some (some s)):∃ v,σ[i]?=some (some v)/\RvS K zE H0 H s v:=by
 obtain⟨v,h1,h2⟩:=r.wor i s e;have sm:a30 (hz zA H) (hz zE H):=by
  rcases r.zok with rfl | ⟨rfl,_⟩
  ·exact a30.refl _
  ·exact Y31 _ _
 refine⟨v,h1,?_⟩;cases s with
 |d y=>exact Hd.same (a30.trans i90 sm) h2.2|z=>exact absurd rfl hs|ks l=>obtain⟨_,d,q,k⟩:=h2;exact⟨d,q,k.same (a30.trans i90 sm)⟩
 |fr xs =>
  obtain⟨a,ys,k1,rfl,k3,k4⟩:=h2;have n:=r.zne i a k1;have hE:zE≠some a:=λq=>by
   rcases r.zok with rfl | ⟨rfl,_⟩
   ·exact n q
   ·cases q
  refine⟨a,ys,rfl,r.new i a k1,hE,k3,k4.same λb o q=>?_⟩;obtain⟨q1,q2⟩:=H50 q;exact O60 (sm b o q1) λz=>q2 i (by rw[z];exact k1)
theorem RW.d51(r:RW K H0 zE zA ow H ρ σ):RW K H0 zE zA (λ_=>none) H (d51 ρ) σ:=by
 refine⟨by unfold Q.d51;rw[Å];exact r.len,λi j a h=>(by cases h),λi a h=>(by cases h),λi a h=>(by cases h),λi s e=>?_,r.ext,r.zok,λi a h=>(by cases h)⟩
 unfold Q.d51 at e;rw[ã] at e;obtain⟨o,e1,e2⟩:=Ì.mp e;cases o with
 |none=>cases e2
 |some s0 =>
  cases e2;obtain⟨v,h1,h2⟩:=r.X60 i s0 e1;refine⟨v,h1,?_⟩;cases s0 with
  |d y=>exact⟨rfl,by rw[q60];exact h2⟩|fr xs=>exact⟨rfl,by rw[q60];exact h2⟩|z=>exact⟨rfl,h2⟩|ks l=>exact⟨rfl,by rw[q60];exact h2⟩
def ow0(ow:Nat->Option È)(i:Nat):Nat->Option Addr:=λj=>if j=i then none else ow j
def ow1(ow:Nat->Option È)(i:Nat)(a:È):Nat->Option Addr:=λj=>if j=i then some a else ow j
theorem RvW.move{ow':Nat->Option È}{j:Nat}{s:S}{v:V}(h:RvW K zA ow H j s v)(e:ow' j=ow j)(sm:a30 (hw ow (hz zA H)) (hw ow' (hz zA H')))(hk:∀ a,ow j=some a->H' a=H a):RvW K zA ow' H' j s v:=by
 cases s with
 |d y=>exact⟨by rw[e];exact h.1,h.2.same sm⟩|z=>exact⟨by rw[e];exact h.1,h.2⟩|ks l=>obtain⟨n,d,q,k⟩:=h;exact⟨by rw[e];exact n,d,q,k.same sm⟩
 |fr xs =>
  obtain⟨a,ys,h1,rfl,h3,h4⟩:=h;exact⟨a,ys,by rw[e];exact h1,rfl,by rw[hk a h1];exact h3,h4.same sm⟩
theorem getElem?_set'{α:Type}{l:List α}{i j:Nat}{x y:α}(h:(l.set i x)[j]?=some y):(j=i/\y=x/\i < l.length)∨(j≠i/\l[j]?=some y):=by
 by_cases hj:j=i
 ·subst hj;have hlt:j < l.length:=by
   have:=(Þ.mp h).1;simpa using this
  rw[ï hlt] at h;cases h;exact .inl ⟨rfl,rfl,hlt⟩
 ·rw[ë (Â4 hj)] at h;exact .inr ⟨hj,h⟩
theorem RW.Z92(r:RW K H0 zE zA ow H ρ σ){i:Nat}(h:Hd K (hw ow (hz zA H)) x v):RW K H0 zE zA (ow0 ow i) H (ρ.set i (some (.d x))) (σ.set i (some v)):=by
 have sub:∀ j a,ow0 ow i j=some a->j≠i/\ow j=some a:=λj a e=>by
  unfold ow0 at e;split at e
  ·cases e
  ·rename_i n;exact⟨n,e⟩
 have sm:a30 (hw ow (hz zA H)) (hw (ow0 ow i) (hz zA H)):=λb o e=>by
  obtain⟨e1,e2⟩:=H50 e;exact j70 e1 λj q=>e2 j (sub j b q).2
 refine⟨by rw[Å0,Å0];exact r.len,λj k a h1 h2=>r.inj j k a (sub j a h1).2 (sub k a h2).2,λj a h1=>r.zne j a (sub j a h1).2,λj a h1=>?_,λj s e=>?_,r.ext,r.zok,λj a h1=>r.new j a (sub j a h1).2⟩
 ·obtain⟨n,h2⟩:=sub j a h1;obtain⟨xs,h3⟩:=r.own j a h2;exact⟨xs,by rw[ë (Â4 n)];exact h3⟩
 ·rcases getElem?_set' e with ⟨rfl,e1,hlt⟩ | ⟨n,e1⟩
  ·cases e1;exact⟨v,ï (by rw[← r.len];exact hlt),by unfold ow0;exact if_pos rfl,h.same sm⟩
  ·obtain⟨w,h1,h2⟩:=r.wor j s e1;exact⟨w,by rw[ë (Â4 n)];exact h1,h2.move (by unfold ow0;exact if_neg n) sm λ_ _=>rfl⟩
theorem RW.S92(r:RW K H0 zE zA ow H ρ σ){i:Nat}{t:S}{v:V}(h:RvW K zA (ow0 ow i) H i t v):RW K H0 zE zA (ow0 ow i) H (ρ.set i (some t)) (σ.set i (some v)):=by
 have sub:∀ j a,ow0 ow i j=some a->j≠i/\ow j=some a:=λj a e=>by
  unfold ow0 at e;split at e
  ·cases e
  ·rename_i n;exact⟨n,e⟩
 have sm:a30 (hw ow (hz zA H)) (hw (ow0 ow i) (hz zA H)):=λb o e=>by
  obtain⟨e1,e2⟩:=H50 e;exact j70 e1 λj q=>e2 j (sub j b q).2
 refine⟨by rw[Å0,Å0];exact r.len,λj k a h1 h2=>r.inj j k a (sub j a h1).2 (sub k a h2).2,λj a h1=>r.zne j a (sub j a h1).2,λj a h1=>?_,λj s e=>?_,r.ext,r.zok,λj a h1=>r.new j a (sub j a h1).2⟩
 ·obtain⟨n,h2⟩:=sub j a h1;obtain⟨xs,h3⟩:=r.own j a h2;exact⟨xs,by rw[ë (Â4 n)];exact h3⟩
 ·rcases getElem?_set' e with ⟨rfl,e1,hlt⟩ | ⟨n,e1⟩
  ·cases e1;exact⟨v,ï (by rw[← r.len];exact hlt),h⟩
  ·obtain⟨w,h1,h2⟩:=r.wor j s e1;exact⟨w,by rw[ë (Â4 n)];exact h1,h2.move (by unfold ow0;exact if_neg n) sm λ_ _=>rfl⟩
theorem RW.a03(r:RW K H0 zE zA ow H ρ σ){i:Nat}(x:Ext zA H H')(hn:H a=none)(za:zA≠some a)(hl:H' a=some (.lst ys))(h:HdA K (hw (ow1 ow i a) (hz zA H')) xs ys)(hi:i < ρ.length) :
  RW K H0 zE zA (ow1 ow i a) H' (ρ.set i (some (.fr xs))) (σ.set i (some (.ref a))):=by
 have r':=r.mono x;have old:∀ j b,ow j=some b->b≠a:=λj b e q=>by
  obtain⟨zs,h1⟩:=r.lst j b e;rw[q,hn] at h1;cases h1
 have sub:∀ j b,ow1 ow i a j=some b->(j=i/\b=a)∨(j≠i/\ow j=some b):=λj b e=>by
  unfold ow1 at e;split at e
  ·rename_i n;cases e;exact .inl ⟨n,rfl⟩
  ·rename_i n;exact .inr ⟨n,e⟩
 have sm:a30 (hw ow (hz zA H)) (hw (ow1 ow i a) (hz zA H')):=λb o e=>by
  obtain⟨e1,e2⟩:=H50 e;have e3:=(v60 e1).1;have hb:b≠a:=λq=>by rw[q,hn] at e3;cases e3
  refine j70 (x b o e1) λj q=>?_;rcases sub j b q with ⟨_,q⟩ | ⟨_,q⟩
  ·exact hb q
  ·exact e2 j q
 refine⟨by rw[Å0,Å0];exact r.len,λj k b h1 h2=>?_,λj b h1=>?_,λj b h1=>?_,λj s e=>?_,r'.ext,r.zok,λj b h1=>?_⟩
 ·rcases sub j b h1 with ⟨q1,q2⟩ | ⟨q1,q2⟩
  ·rcases sub k b h2 with ⟨p1,p2⟩ | ⟨p1,p2⟩
   ·rw[q1,p1]
   ·exact absurd q2 (old k b p2)
  ·rcases sub k b h2 with ⟨p1,p2⟩ | ⟨p1,p2⟩
   ·exact absurd p2 (old j b q2)
   ·exact r.inj j k b q2 p2
 ·rcases sub j b h1 with ⟨_,q2⟩ | ⟨_,q2⟩
  ·rw[q2];exact za
  ·exact r.zne j b q2
 ·rcases sub j b h1 with ⟨q1,q2⟩ | ⟨q1,q2⟩
  ·rw[q1];exact⟨xs,ï hi⟩
  ·obtain⟨zs,h3⟩:=r.own j b q2;exact⟨zs,by rw[ë (Â4 q1)];exact h3⟩
 ·rcases getElem?_set' e with ⟨rfl,e1,hlt⟩ | ⟨n,e1⟩
  ·cases e1;exact⟨.ref a,ï (by rw[← r.len];exact hlt),a,ys,by unfold ow1;exact if_pos rfl,rfl,hl,h⟩
  ·obtain⟨w,h1,h2⟩:=r.wor j s e1;refine⟨w,by rw[ë (Â4 n)];exact h1,h2.move (by unfold ow1;exact if_neg n) sm λb q=>?_⟩
   obtain⟨zs,k⟩:=r.lst j b q;rw[k];exact x.at k (r.zne j b q)
 ·rcases sub j b h1 with ⟨_,q2⟩ | ⟨_,q2⟩
  ·rw[q2];exact(r.young hn za).1
  ·exact r.new j b q2
theorem RW.upd(r:RW K H0 zE zA ow H ρ σ){i:Nat}(e:ow i=some a)(h:HdA K (hw ow (hz zA H)) xs ys):RW K H0 zE zA ow (upd H a (.lst ys)) (ρ.set i (some (.fr xs))) σ:=by
 have za:=r.zne i a e;have sm:a30 (hw ow (hz zA H)) (hw ow (hz zA (L2.upd H a (.lst ys)))):=λb o q=>by
  obtain⟨e1,e2⟩:=H50 q;obtain⟨e3,e4⟩:=v60 e1;have hb:b≠a:=λz=>e2 i (by rw[z];exact e)
  exact j70 (e00 (by rw[a80 hb];exact e3) e4 (x40 e1)) e2
 obtain⟨xs0,h0⟩:=r.own i a e;have hi:i < ρ.length:=(Þ.mp h0).1;obtain⟨v0,s0,a0,ys0,q1,q2,q3,q4⟩:=r.wor i _ h0;rw[e] at q1;cases q1;refine⟨by rw[Å0];exact r.len,r.inj,r.zne,λj b h1=>?_,λj s q=>?_,⟨λb o q=>?_,λb ps q=>?_⟩,r.zok,r.new⟩
 ·by_cases hj:j=i
  ·subst hj;exact⟨xs,ï hi⟩
  ·obtain⟨zs,h3⟩:=r.own j b h1;exact⟨zs,by rw[ë (Â4 hj)];exact h3⟩
 ·rcases getElem?_set' q with ⟨rfl,e1,hlt⟩ | ⟨n,e1⟩
  ·cases e1;exact⟨v0,s0,a,ys,e,q2,d10,h.same sm⟩
  ·obtain⟨w,h1,h2⟩:=r.wor j s e1;refine⟨w,h1,h2.move rfl sm λb q=>?_⟩;have hb:b≠a:=λz=>n (r.inj j i b q (by rw[z];exact e))
   exact a80 hb
 ·obtain⟨e1,e2⟩:=v60 (r.ext b o q);have hb:b≠a:=λz=>by
   have:=(v60 q).1;rw[z,r.new i a e] at this;cases this
  exact e00 (by rw[a80 hb];exact e1) e2 (x40 q)
 ·obtain⟨qs,e1⟩:=r.ext.tbl b ps q;have hb:b≠a:=λz=>by rw[z,q3] at e1;cases e1
  exact⟨qs,by rw[a80 hb];exact e1⟩
end
end Q
namespace Q
open PySem L2 PySem.Spec PyProof.Rows
variable [TB:Tb]
def G52:Option È->Z->Z
 |none,_=>none|some _,z=>z
def t80(K:Â)(G:Gs)(E:XK)(H0:Hp)(zE:Option È)(B:Hp)(D:Ends):R O->Prop
 |.ok (.nx ρ) z=>∀ zA ow σ H,RW K H0 zE zA ow H ρ σ->f20 zA z H->a30 B (hw ow (hz zA H))->D.nx σ H|.ok (.rt s) z=>∀ v H,s≠.z->Ext zE H0 H->f20 zE (G52 zE z) H->RvS K zE H0 H s v->D.rt v H|.er c z=>∀ e H,Ext zE H0 H->f20 zE (G52 zE z) H->H e=none->E (.ref (G.cls c)) (some e) H
def tX(K:Â)(G:Gs)(E:XK)(H0:Hp)(zE:Option È)(x:Sm):TS:=λD σ H=>∃ zA ow ρ z r,RW K H0 zE zA ow H ρ σ/\f20 zA z H/\ex G.F zE.isNone x ρ z=some r/\t80 K G E H0 zE (hw ow (hz zA H)) D r
section
variable {K:Â}{G:Gs}{E:XK}{H0 H H':Hp}{zE zA:Option È}{ow:Nat->Option È}{ρ:Env}{σ:L2.St}{Dn:Ends}{z:Z}
theorem q12(zok:zA=zE∨(zE=none/\∀ a,zA=some a->H0 a=none))(st:f20 zA z H):f20 zE (G52 zE z) H:=by
 cases zE with
 |none=>exact⟨trivial,st.tab⟩
 |some a =>
  rcases zok with rfl | ⟨h,_⟩
  ·exact st
  ·cases h
theorem t80.er_(po:t80 K G E H0 zE B Dn (.er c z))(r:RW K H0 zE zA ow H ρ σ):EPost G zA E c z H:=λe H' x st n=>po e H' (D21 r.ext r.zok x) (q12 r.zok st) n
theorem t80.ers(po:t80 K G E H0 zE B Dn rr)(r:RW K H0 zE zA ow H ρ σ):∀ c z1,rr=.er c z1->EPost G zA E c z1 H:=λc z1 e=>by subst e;exact po.er_ r
theorem t80.mono(po:t80 K G E H0 zE B Dn rr)(h:a30 B B'):t80 K G E H0 zE B' Dn rr:=by
 match rr,po with
 |.ok (.nx _) _,po=>exact λzA ow σ H r st sm=>po zA ow σ H r st (a30.trans h sm)|.ok (.rt _) _,po=>exact po|.er _ _,po=>exact po
theorem s90(ow:Nat->Option È)(i:Nat):a30 (hw ow H) (hw (ow0 ow i) H):=λb o e=>by
 obtain⟨e1,e2⟩:=H50 e;refine j70 e1 λj q=>?_;unfold ow0 at q;split at q
 ·cases q
 ·exact e2 j q
theorem H60(ow:Nat->Option È):a30 (hw ow H) (hw (λ_=>none) H):=λb o e=>j70 (H50 e).1 λj q=>nomatch q
theorem R21(x:Ext zA H H')(hn:H a=none)(i:Nat):a30 (hw ow (hz zA H)) (hw (ow1 ow i a) (hz zA H')):=λb o e=>by
 obtain⟨e1,e2⟩:=H50 e;have e3:=(v60 e1).1;have hb:b≠a:=λq=>by rw[q,hn] at e3;cases e3
 refine j70 (x b o e1) λj q=>?_;unfold ow1 at q;split at q
 ·cases q;exact hb rfl
 ·exact e2 j q
theorem e81(e:ow i=some a):a30 (hw ow (hz zA H)) (hw ow (hz zA (upd H a o))):=λb u q=>by
 obtain⟨e1,e2⟩:=H50 q;obtain⟨e3,e4⟩:=v60 e1;have hb:b≠a:=λw=>e2 i (by rw[w];exact e)
 exact j70 (e00 (by rw[a80 hb];exact e3) e4 (x40 e1)) e2
mutual
theorem R31:∀ {p:Pat}{d:D}{ρ ρ':Env},g30 p d ρ=some ρ'->∀ {ow:Nat->Option È}{σ:L2.St}{v:V}{R:L2.St->Hp->Prop},RW K H0 zE zA ow H ρ σ->Hd K (hw ow (hz zA H)) d v ->
  (∀ ow' σ',RW K H0 zE zA ow' H ρ' σ'->a30 (hw ow (hz zA H)) (hw ow' (hz zA H))->R σ' H)->gP K p v σ H R
 |.v i,d,ρ,ρ',e,ow,σ,v,R,r,hd,k=>by
  unfold g30 at e;cases e;unfold gP;exact k _ _ (r.Z92 hd) (s90 ow i)
 |.tup ps,d,ρ,ρ',e,ow,σ,v,R,r,hd,k=>by
  unfold g30 at e;cases d with
  |tup l =>
   obtain⟨a,xs,rfl,h1,h2⟩:=hd.E10;unfold gP;exact⟨a,xs,rfl,(a10 zA H).sqT (a30.sqT i90 h1),by rw[h2.length];exact H30 e,D31 e r h2 k⟩
  |_=>cases e
 |.nil,_,_,_,e,_,_,_,_,_,_,_=>by unfold g30 at e;cases e
 |.cons _ _,_,_,_,e,_,_,_,_,_,_,_=>by unfold g30 at e;cases e
theorem D31:∀ {r:Pat}{l:List D}{ρ ρ':Env},bindL r l ρ=some ρ'->∀ {ow:Nat->Option È}{σ:L2.St}{vs:List V}{R:L2.St->Hp->Prop},RW K H0 zE zA ow H ρ σ->HdA K (hw ow (hz zA H)) l vs ->
  (∀ ow' σ',RW K H0 zE zA ow' H ρ' σ'->a30 (hw ow (hz zA H)) (hw ow' (hz zA H))->R σ' H)->gL K r vs σ H R
 |.nil,l,ρ,ρ',e,ow,σ,vs,R,r,hd,k=>by
  unfold bindL at e;cases l with
  |nil =>
   cases e;unfold gL;exact⟨hd.g40,k ow σ r (a30.refl _)⟩
  |cons x l=>cases e
 |.cons p q,l,ρ,ρ',e,ow,σ,vs,R,r,hd,k=>by
  unfold bindL at e;cases l with
  |nil=>cases e
  |cons x l =>
   obtain⟨ρ1,e1,e2⟩:=Ï.mp e;obtain⟨v,ws,rfl,h1,h2⟩:=hd.c50;unfold gL;exact⟨v,ws,rfl,R31 e1 r h1 λow' σ' r' sm=>D31 e2 r' (h2.same sm) λow2 σ2 r2 sm2=>k ow2 σ2 r2 (a30.trans sm sm2)⟩
 |.v _,_,_,_,e,_,_,_,_,_,_,_=>by unfold bindL at e;cases e
 |.tup _,_,_,_,e,_,_,_,_,_,_,_=>by unfold bindL at e;cases e
end
theorem D41(r:RW K H0 zE zA ow H ρ σ)(s:S):∃ ow',RW K H0 zE zA ow' H (k40 s ρ) σ/\a30 (hw ow (hz zA H)) (hw ow' (hz zA H))/\(K20 s=true∨∀ i,ow' i=none):=by
 unfold k40;rw[W40];cases hb:K20 s with
 |true=>exact⟨ow,r,a30.refl _,.inl rfl⟩|false=>exact⟨_,r.d51,H60 ow,.inr λ_=>rfl⟩
theorem k91{p:Pat}{s:S}{v:V}{ρ':Env}{R:L2.St->Hp->Prop}(r:RW K H0 zE zA ow H ρ σ)(x:Ext zA H H')(rv:RvS K zA H H' s v)(e:G50 p s (k40 s ρ)=some ρ')
  (k:∀ ow' σ',RW K H0 zE zA ow' H' ρ' σ'->a30 (hw ow (hz zA H)) (hw ow' (hz zA H'))->R σ' H'):gP K p v σ H' R:=by
 obtain⟨owk,r1,s1,b1⟩:=D41 r s;have r2:=r1.mono x;have s2:a30 (hw ow (hz zA H)) (hw owk (hz zA H')):=a30.trans s1 (d90 x);cases s with
 |d y =>
  have e':g30 p y (k40 (.d y) ρ)=some ρ':=by cases p <;> exact e
  refine R31 e' r2 ?_ λow' σ' r3 s3=>k ow' σ' r3 (a30.trans s2 s3);rcases b1 with b1 | b1
  ·exact Q50 r2.Y21 b1 rv
  ·have:owk=λ_=>none:=funext b1;subst this;rw[q60];exact rv
 |z =>
  cases p with
  |v i =>
   simp only[G50] at e;split at e
   ·cases e;unfold gP;exact k _ _ (r2.S92 (t:=.z) ⟨if_pos rfl,rv⟩) (a30.trans s2 (s90 owk i))
   ·cases e
  |_=>cases e
 |ks l =>
  cases p with
  |v i =>
   simp only[G50] at e;split at e
   ·cases e;unfold gP;obtain⟨d,rfl,h1⟩:=rv;exact k _ _ (r2.S92 (t:=.ks l) ⟨if_pos rfl,d,rfl,(O42 r2.Y21 h1).same (s90 owk i)⟩) (a30.trans s2 (s90 owk i))
   ·cases e
  |_=>cases e
 |fr xs =>
  cases p with
  |v i =>
   simp only[G50] at e;split at e
   ·rename_i hi;cases e;unfold gP;obtain⟨a,ys,rfl,h1,h2,h3,h4⟩:=rv;refine k _ _ (r1.a03 x h1 h2 h3 ?_ hi) (a30.trans s1 (R21 x h1 i));rcases b1 with b1 | b1
    ·refine E70 (λj b q=>?_) b1 (h4.same (g20 a _));unfold ow1 at q;split at q
     ·cases q;exact⟨ys,e00 h3 h2⟩
     ·exact r2.Y21 j b q
    ·refine h4.same λb o q=>?_;have hb:b≠a:=λw=>by subst w;unfold hide at q;rw[if_pos rfl] at q;cases q
     refine j70 (g20 a _ b o q) λj w=>?_;unfold ow1 at w;split at w
     ·cases w;exact hb rfl
     ·rw[b1 j] at w;cases w
   ·cases e
  |_=>cases e
end
end Q
namespace Q
open PySem L2 PySem.Spec PyProof.Rows
variable [TB:Tb]
theorem j02(h:n40 v=false):Ä6 [tg] v env=pure none:=by
 cases tg <;> first | rfl | (cases v <;> first | (cases h;done) | rfl)
theorem j12(h:vs.all (Ù6 8)=true):Ä6 [.Tuple ts k p] (.Tuple vs k' p') env=pure none:=by
 unfold Ä6;simp only[h,if_true];split
 ·rfl
 ·split
  ·rfl
  ·split
   ·rfl
   ·rfl
def D51(look:Str->Option Ë1):Ò->Bool
 |.Name id _=>look id != some .local|_=>true
theorem j22(h:ts.any (D51 env.kindOf)=true):Ä6 [.Tuple ts k p] (.Tuple vs k' p') env=pure none:=by
 have hl:∀ (l:Nat) (ts:List Ò),ts.any (D51 env.kindOf)=true->(ts.filterMap fun
   |.Name id pos=>if env.kindOf id == some .local&&pos.line == l then some id else none
   |_=>none).length < ts.length:=by
  intro l ts
  induction ts with
  |nil=>intro h;cases h
  |cons e r ih =>
   intro h;have le:=List.length_filterMap_le (fun
    |.Name id pos=>if env.kindOf id == some .local&&pos.line == l then some id else none
    |_=>none:Ò->Option Str) r
   rw[List.any_cons,Â9] at h;rw[Â0];split
   ·rw[Õ];omega
   ·rename_i b hb;rcases h with h | h
    ·exfalso;cases e with
     |Name id pos =>
      have h':(env.kindOf id != some .local)=true:=h;simp only[bne_iff_ne,ne_eq] at h';simp[h'] at hb
     |_=>cases hb
    ·have:=ih h;rw[Õ,Õ];omega
 unfold Ä6;dsimp only;split
 ·rfl
 ·split
  ·rfl
  ·have:=hl ((ts.head?.map (·.pos.line)).getD 0) ts h;rw[if_pos];simp only[Â9,bne_iff_ne,ne_eq];exact .inl (ß this)
theorem B12{x y:Str}{a b:Ò}{px py pt pt2:Pos}{k k2:Nat}{env:Ç8}(hb:env.blockKind=.function)(hx:env.kindOf x=some .local)(hy:env.kindOf y=some .local)(hxy:(x == y)=false)(hl:(py.line == px.line)=true)
  (ha:noStar a=true) (hb':noStar b=true) (hf:[a,b].all (Ù6 8)=false) (hc:[a,b].all (constantsAlone 8)=false) :
  Ä6 [.Tuple [.Name x px,.Name y py] k pt] (.Tuple [a,b] k2 pt2) env=pure (some [x,y]):=by
 have hbk:(env.blockKind != .function)=false:=by rw[hb];rfl
 have e1:(x == x)=true:=beq_self_eq_true x;have hyx:(y == x)=false:=by
  cases h:y == x with
  |false=>rfl|true=>rw[beq_iff_eq] at h;subst h;rw[e1] at hxy;cases hxy
 have hl2:(Ò.Name x px).pos.line=px.line:=rfl;have hl3:(Ò.Name y py).pos.line=py.line:=rfl;have hl':py.line=px.line:=by simpa using hl
 unfold Ä6;simp only[List.filterMap,List.head?,Í3,Option.getD,hx,hy,hf,hc,hbk,hl2,hl'];simp[List.eraseDups,List.eraseDupsBy,List.eraseDupsBy.loop,hyx,hxy];intro h;rcases h with h | h
 ·cases a <;> first | (cases h;done) | (cases ha;done)
 ·cases b <;> first | (cases h;done) | (cases hb';done)
def X70:Ò->Bool
 |.ListComp ..=>false|.SetComp ..=>false|.DictComp ..=>false|_=>true
theorem x90(h:X70 v=true)(t:Option Ò):Ï7 v t n env=pure false:=by
 cases v <;> first | rfl | (cases h;done)
theorem X80(h:(match tg with | .Name ..=>true | _=>false)=false):Ï7 v (some tg) n env=pure false:=by
 cases v <;> first | rfl | (cases tg <;> first | rfl | (cases h;done))
theorem R41{a b:Ò}{c:List Comprehension}{d:Á2}{f px:Pos}{t:Str}{n:Nat}{env:Ç8}(h:env.kindOf t=some .cell∨env.kindOf t=some .free):Ï7 (.DictComp a b c d f) (some (.Name t px)) n env=pure false:=by
 show(pure (env.blockKind == .function&&env.kindOf t == some .local&&_&&_):Sem Bool)=_;have e:(env.kindOf t == some .local)=false:=by rcases h with h | h <;> rw[h] <;> rfl
 rw[e,Ë4,Å5,Å5]
theorem R51{el:Ò}{gs:List Comprehension}{sc:Á2}{p px:Pos}{t:Str}{n:Nat}{env:Ç8}:∃ b,Ï7 (.ListComp el gs sc p) (some (.Name t px)) n env=pure b:=⟨_,rfl⟩
structure XS(lm:Bool)(X:Cx)(G:Gs)(E:XK)(N:List Str)(sc:Scope)(cn:List Str):Prop extends XI lm X G E N sc where
 sco:X.env.scope=sc
 fnk:sc.kind=.function
 own:PassesOwn (model X.prog X.w) X.A X.env X.xe
 can:P00 X E
 fnx:∀ x,X.fn x=true
 cls:∀ c x,cn[c]?=some x->X.mg x=some (.ref (G.cls c))/\PySem.W.excIn X.K (G.cls c) [.type "ValueError",.type "Exception",.type "BaseException",.type "object"] "ValueError.__new__"=true
def Q60(sc:Á2)(x:Str):Bool:=sc.names.lookup x == some .local || sc.names.lookup x == some .cell
section
variable {lm:Bool}{X:Cx}{G:Gs}{E:XK}{N:List Str}{sc:Á2}{cn:List Str}{H0:Hp}{zE:Option È}
theorem XS.loc(x:XS lm X G E N sc cn):Q71 X N (Q60 sc):=by
 refine⟨x.hN,x.nd,λy h=>?_,λy _=>.inl (x.fnx y),x.calm⟩;unfold Q60 at h;rw[Â9,beq_iff_eq,beq_iff_eq] at h;rw[x.sco];exact h
theorem XS.bk(x:XS lm X G E N sc cn):X.env.blockKind=.function:=by
 unfold Env.blockKind;rw[x.sco,x.fnk];rfl
theorem PS.imp{st:Ç9}{t t':TS}(h:PS X st t)(i:∀ D σ H,t' D σ H->t D σ H):PS X st t':=λpins s σ H D I q=>h pins s σ H D I (i _ _ _ q)
theorem PSs.imp{st:List Ç9}{t t':TS}(h:PSs X st t)(i:∀ D σ H,t' D σ H->t D σ H):PSs X st t':=λpins s σ H D I q=>h pins s σ H D I (i _ _ _ q)
theorem O52:PSs X [] (tX X.K G E H0 zE .nil):=PSs.imp b52 λD σ H q=>by
 obtain⟨zA,ow,ρ,z,r,rw,st,e,po⟩:=q;cases e;exact po zA ow σ H rw st (a30.refl _)
theorem O62{s r:Sm}{st:Ç9}{rest:List Ç9}(h1:PS X st (tX X.K G E H0 zE s))(h2:PSs X rest (tX X.K G E H0 zE r)):PSs X (st::rest) (tX X.K G E H0 zE (.seq s r)):=PSs.imp (L31 h1 h2) λD σ H q=>by
 obtain⟨zA,ow,ρ,z,rr,rw,st,e,po⟩:=q;have e0:M.bind (ex G.F zE.isNone s ρ) (λo=>match o with | .nx ρ=>ex G.F zE.isNone r ρ | .rt s=>M.ret (.rt s)) z=some rr:=e
 rcases M.bind_some e0 with ⟨o,z1,e1,e2⟩ | ⟨c,z1,e1,e2⟩
 ·refine⟨zA,ow,ρ,z,_,rw,st,e1,?_⟩;cases o with
  |nx ρ1=>exact λzA' ow' σ' H' rw' st' sm=>⟨zA',ow',ρ1,z1,rr,rw',st',e2,po.mono sm⟩|rt s=>cases e2;exact po
 ·subst e2;exact⟨zA,ow,ρ,z,_,rw,st,e1,po⟩
theorem Y41{p:Pat}{e:Ex}{D:Ends}{σ:L2.St}{H:Hp}(q:tX X.K G E H0 zE (.set p e) D σ H):s32 (tI X.K G E e) (gP X.K p) D σ H:=by
 obtain⟨zA,ow,ρ,z,rr,rw,st,ee,po⟩:=q;refine l40 rw.X60 st ee (po.ers rw) λl z1 e1=>?_;obtain⟨s,hs,e2⟩:=M.a20 e1;refine⟨s,H20 hs,λv H1 x1 st1 rv=>?_⟩;obtain⟨ρ',hb,e3⟩:=M.a20 e2;cases e3;exact k91 rw x1 rv hb λow' σ' r' sm=>po zA ow' σ' H1 r' st1 sm
theorem T02{K:Â}{i:Nat}:gP K (.v i)=q01 i:=by unfold gP;rfl
theorem O72(x:XS lm X G E N sc cn){i:Nat}{e:Ex}{y:Str}{v:Ò}{px pos:Pos}(hi:N[i]?=some y)(hl:Q60 sc y=true)(g:b00 X G E e v)
  (hc:∀ elt gs csc q,v=.ListComp elt gs csc q->∃ tg iter ifs,gs=[⟨tg,iter,ifs,0⟩]/\L80 X G E e elt tg iter ifs csc) (hno:∀ a b c d,v≠.SetComp a b c d)
  (hnd:∀ a b c d f,v=.DictComp a b c d f->sc.names.lookup y=some .cell) :
  PS X (.Assign [.Name y px] v pos) (tX X.K G E H0 zE (.set (.v i) e)):=by
 have L:=x.loc;refine PS.imp (t:=s32 (tI X.K G E e) (q01 i)) ?_ λD σ H q=>by rw[← T02 (K:=X.K)];exact Y41 q
 have h1:X.N.Nodup:=by rw[x.hN];exact x.nd
 have h2:X.N[i]?=some y:=by rw[x.hN];exact hi
 by_cases hv:∃ elt gs csc q,v=.ListComp elt gs csc q
 ·obtain⟨elt,gs,csc,q,rfl⟩:=hv;obtain⟨b,hb⟩:=R51 (el:=elt) (gs:=gs) (sc:=csc) (p:=q) (px:=px) (t:=y) (n:=pos.line) (env:=X.env);cases b with
  |false=>exact i11 h1 h2 (L.lc y hl) g.pe hb (L.fn y hl)
  |true =>
   obtain⟨tg,iter,ifs,rfl,own,capt,wi,gg,tt,te,k1,k2,k3,k4,k5,k6,k7⟩:=hc elt gs csc q rfl;refine PS.imp (d52 h1 h2 (L.lc y hl) hb x.calm k1 k2 k3 k4 k5 k6 (L.fn y hl)) λD σ H q=>k7 _ _ _ q
 ·by_cases hd:∃ a b c d f,v=.DictComp a b c d f
  ·obtain⟨a,b,c,d,f,rfl⟩:=hd;exact i11 h1 h2 (L.lc y hl) g.pe (R41 (x.cel y (.inl (hnd _ _ _ _ _ rfl)))) (L.fn y hl)
  ·exact i11 h1 h2 (L.lc y hl) g.pe (x90 (by cases v <;> first | rfl | exact absurd rfl (hno _ _ _ _) | exact absurd ⟨_,_,_,_,_,rfl⟩ hd | exact absurd ⟨_,_,_,_,rfl⟩ hv) _) (L.fn y hl)
theorem D61(x:XS lm X G E N sc cn)(hp:l50 N (Q60 sc) p tg=true)(g:b00 X G E e v)(ht:n40 tg=true)(hv:Ä6 [tg] v X.env=pure none) :
  PS X (.Assign [tg] v pos) (tX X.K G E H0 zE (.set p e)):=by
 refine PS.imp (V61 g.pe (B81 x.loc hp) ?_ hv ?_) λD σ H q=>Y41 q
 ·exact X80 (by cases tg <;> first | rfl | (cases ht;done))
 ·cases tg <;> first | rfl | (cases ht;done)
theorem O82(x:XS lm X G E N sc cn){i j:Nat}{ea eb:Ex}{a b:Ò}{y w:Str}{px py pt pt2 pos:Pos}{k k2:Nat}(hi:N[i]?=some y)(hj:N[j]?=some w)(hyw:(y == w)=false)(hy:sc.names.lookup y=some .local)(hw':sc.names.lookup w=some .local)
  (g:Good X G E (.cons ea (.cons eb .nil)) [a,b]) (hs:Ä6 [.Tuple [.Name y px,.Name w py] k pt] (.Tuple [a,b] k2 pt2) X.env=pure (some [y,w])) :
  PS X (.Assign [.Tuple [.Name y px,.Name w py] k pt] (.Tuple [a,b] k2 pt2) pos) (tX X.K G E H0 zE (.set (.tup (.cons (.v i) (.cons (.v j) .nil))) (.tup (.cons ea (.cons eb .nil))))):=by
 have hij:i≠j:=λh=>by
  subst h;rw[hi] at hj;cases hj;rw[beq_self_eq_true] at hyw;cases hyw
 refine PS.imp (s42 x.calm (by rw[x.hN];exact x.nd) (by rw[x.hN];exact hi) (by rw[x.hN];exact hj) hij (by rw[x.sco];exact hy) (by rw[x.sco];exact hw') (g.args rfl).1 hs rfl) λD σ H q=>?_
 obtain⟨zA,ow,ρ,z,rr,rw,st,ee,po⟩:=q;have e0:M.bind (M.bind (ev G.F (.cons ea (.cons eb .nil)) ρ) λl=>M.bind (M.of (plA l)) λds=>if ds.length<=most then M.ret [S.d (.tup ds)] else M.no) (λl=>M.bind (M.of (one l)) λs=>M.bind (M.of (G50 (.tup (.cons (.v i) (.cons (.v j) .nil))) s (k40 s ρ))) λρ=>M.ret (O.nx ρ)) z=some rr:=ee;rcases M.bind_some e0 with ⟨l0,z0,e1,e2⟩ | ⟨c,z1,e1,e2⟩
 ·rcases M.bind_some e1 with ⟨l,z1,e3,e4⟩ | ⟨c,z1,e3,e4⟩
  ·obtain⟨ds,hds,e5⟩:=M.a20 e4;split at e5
   ·cases e5;obtain⟨s,hs',e6⟩:=M.a20 e2;cases hs';obtain⟨ρ',hb,e7⟩:=M.a20 e6;cases e7;refine⟨zA,ρ,z,_,rw.X60,st,e3,λvs H1 x1 st1 rvs=>?_⟩;have hd:=Q00 rvs hds;obtain⟨owk,r1,s1,b1⟩:=D41 rw (.d (.tup ds));have hb':bindL (.cons (.v i) (.cons (.v j) .nil)) ds (k40 (.d (.tup ds)) ρ)=some ρ':=by
     have:g30 (.tup (.cons (.v i) (.cons (.v j) .nil))) (.tup ds) (k40 (.d (.tup ds)) ρ)=some ρ':=hb;unfold g30 at this;exact this
    have r2:=r1.mono x1;have hd2:HdA X.K (hw owk (hz zA H1)) ds vs:=by
     rcases b1 with b1 | b1
     ·exact E70 r2.Y21 (by simpa [K20,bare] using b1) hd
     ·have:owk=λ_=>none:=funext b1;subst this;rw[q60];exact hd
    have:=D31 hb' (R:=D.nx) r2 hd2 λow' σ' r' sm=>po zA ow' σ' H1 r' st1 (a30.trans s1 (a30.trans (d90 x1) sm));unfold gL at this;obtain⟨v,vr,rfl,this⟩:=this;unfold gP gL at this;obtain⟨u,ur,rfl,this⟩:=this;unfold gP gL at this;obtain⟨rfl,this⟩:=this;exact⟨v,u,rfl,this⟩
   ·cases e5
  ·cases e4
 ·subst e2;rcases M.bind_some e1 with ⟨l,z2,e3,e4⟩ | ⟨c,z2,e3,e4⟩
  ·obtain⟨ds,hds,e5⟩:=M.a20 e4;split at e5 <;> cases e5
  ·cases e4;exact⟨zA,ρ,z,_,rw.X60,st,e3,po.er_ rw⟩
theorem Y51{s t:S}(h:noS s=some t):s=t/\t≠.z:=by
 cases s with
 |z=>cases h
 |ks _=>cases h
 |d _=>cases h;exact⟨rfl,λh=>nomatch h⟩
 |fr _=>cases h;exact⟨rfl,λh=>nomatch h⟩
theorem B22(x:XS lm X G E N sc cn){i:Nat}{n:Str}{p pos:Pos}(h1:N[i]?=some n)(h2:c70 n=true):PS X (.Return (some (.Name n p)) pos) (tX X.K G E H0 zE (.ret (.var i))):=by
 unfold c70 at h2;simp only[À,á] at h2;refine PS.imp (V51 (w90 (i:=i) (by rw[x.hN];exact h1) (x.vis n (ô h1)) h2.1 h2.2)) λD σ H q=>?_
 obtain⟨zA,ow,ρ,z,rr,rw,st,ee,po⟩:=q;have e0:(match ρ[i]? with | some (some s)=>M.bind (M.of (noS s)) λs=>M.ret (O.rt s) | _=>M.no) z=some rr:=ee
 cases hs:ρ[i]? with
 |none=>rw[hs] at e0;cases e0
 |some o =>
  cases o with
  |none=>rw[hs] at e0;cases e0
  |some s =>
   rw[hs] at e0;obtain⟨t,ht,e1⟩:=M.a20 e0;cases e1;obtain⟨rfl,nz⟩:=Y51 ht;obtain⟨v,k1,k2⟩:=rw.Z82 nz hs;exact⟨v,k1,po v H nz rw.ext (q12 rw.zok st) k2⟩
theorem O92(hv:∀ i,e≠.var i)(g:b00 X G E e v):PS X (.Return (some v) pos) (tX X.K G E H0 zE (.ret e)):=by
 refine PS.imp (V51 g.pe) λD σ H q=>?_;obtain⟨zA,ow,ρ,z,rr,rw,st,ee,po⟩:=q;have e0:M.bind (ev G.F e ρ) (λl=>M.bind (M.of ((one l).bind noS)) λs=>M.ret (O.rt s)) z=some rr:=by
  cases e <;> first | exact ee | exact absurd rfl (hv _)
 refine l40 rw.X60 st e0 (po.ers rw) λl z1 e1=>?_;obtain⟨t,ht,e2⟩:=M.a20 e1;cases e2;obtain⟨s,hs,hn⟩:=Ï.mp ht;obtain⟨rfl,nz⟩:=Y51 hn;exact⟨s,H20 hs,λv H1 x1 st1 rv=>po v H1 nz (D21 rw.ext rw.zok x1) (q12 rw.zok st1) (rw.out nz x1 rv)⟩
theorem a13(g:b00 X G E c ce)(hn:∀ t a b p,ce≠.IfExp t a b p)(ha:PSs X a (tX X.K G E H0 zE t))(hb:PSs X b (tX X.K G E H0 zE u)) :
  PS X (.If ce a b pos) (tX X.K G E H0 zE (.iff c t u)):=by
 refine PS.imp (H72 (g.pt hn) ha hb) λD σ H q=>?_;obtain⟨zA,ow,ρ,z,rr,rw,st,ee,po⟩:=q;refine X00 rw.X60 st ee (po.ers rw) λb z1 e1 H1 x1 st1=>?_;have r1:=rw.mono x1;have sm:a30 (hw ow (hz zA H)) (hw ow (hz zA H1)):=d90 x1;cases b with
 |true=>exact⟨zA,ow,ρ,z1,rr,r1,st1,e1,po.mono sm⟩|false=>exact⟨zA,ow,ρ,z1,rr,r1,st1,e1,po.mono sm⟩
theorem P02(g:b00 X G E e v)(h:X70 v=true):PS X (.Expr v pos) (tX X.K G E H0 zE (.exp e)):=by
 refine PS.imp (b81 g.pe (x90 h none)) λD σ H q=>?_;obtain⟨zA,ow,ρ,z,rr,rw,st,ee,po⟩:=q;have e0:M.bind (ev G.F e ρ) (λl=>M.bind (M.of (one l)) λ_=>M.ret (O.nx ρ)) z=some rr:=ee;refine l40 rw.X60 st e0 (po.ers rw) λl z1 e1=>?_;obtain⟨s,hs,e2⟩:=M.a20 e1;cases e2;exact⟨s,H20 hs,λv H1 x1 st1 rv=>po zA ow σ H1 (rw.mono x1) st1 (d90 x1)⟩
def G62:Bi->Ð6->Bool
 |.mul,.Mult=>true|.add,.Add=>true|_,_=>false
theorem B32(h:G62 o op=true):PIp X op λx y H Q=>∃ i j k,x=.int i/\y=.int j/\C00 o (.int i) (.int j)=some (.d (.int k))/\Q (.int k) H:=by
 intro pins s σ H x y v u Q I r1 r2 q;obtain⟨i,j,k,rfl,rfl,e,q⟩:=q;obtain⟨t,rfl⟩:=r1;obtain⟨t',rfl⟩:=r2;cases o <;> cases op <;> first | (cases h;done) | skip
 ·cases e;exact iadd_int ⟨.int _,H,I.tok _,⟨_,rfl⟩,q⟩
 ·obtain⟨hl,e⟩:=f30 e;cases e;exact imul_int ⟨.int _,H,I.tok _,⟨_,rfl⟩,q⟩ (X01 hl.1 hl.2)
theorem j32{o:Bi}{op:Ð6}(h:G62 o op=true){i j:Int}{s:S}(e:C00 o (.int i) (.int j)=some s):∃ k,s=.d (.int k):=by
 cases o <;> cases op <;> first | (cases h;done) | skip
 ·cases e;exact⟨_,rfl⟩
 ·obtain⟨_,e⟩:=f30 e;cases e;exact⟨_,rfl⟩
theorem B42(h:asI d=some i):d=.int i:=by cases d <;> first | (cases h;rfl) | (cases h;done)
theorem P12(x:XS lm X G E N sc cn){i:Nat}{o:Bi}{e:Ex}{y:Str}{v:Ò}{op:Ð6}{px pos:Pos}(hi:N[i]?=some y)(hl:Q60 sc y=true)(ho:G62 o op=true)(g:b00 X G E e v):PS X (.AugAssign (.Name y px) op v pos) (tX X.K G E H0 zE (.aug o i e)):=by
 have L:=x.loc;refine PS.imp (s52 (i:=i) (by rw[x.hN];exact x.nd) (by rw[x.hN];exact hi) (L.lc y hl) g.pe (B32 ho) (L.fn y hl)) λD σ H q=>?_
 obtain⟨zA,ow,ρ,z,rr,rw,st,ee,po⟩:=q;obtain⟨yd,hy,e1⟩:=M.a20 ee;obtain⟨s0,hs0,hy⟩:=Ï.mp hy;have hr:ρ[i]?=some (some s0):=by
  cases h:ρ[i]? with
  |none=>rw[h] at hs0;cases hs0
  |some w=>rw[h] at hs0;cases hs0;rfl
 obtain⟨w,k1,k2⟩:=rw.wor i s0 hr;refine⟨w,k1,?_⟩;refine l40 rw.X60 st e1 (po.ers rw) λl z1 e2=>?_;obtain⟨xi,hx,e3⟩:=M.a20 e2;obtain⟨dx,hx1,hx2⟩:=Ï.mp hx;obtain⟨s1,rfl,hs1⟩:=g50 hx1;cases B42 hx2;refine⟨s1,rfl,λu H1 x1 st1 rv=>?_⟩;obtain⟨s2,hb,e4⟩:=M.a20 e3;obtain⟨yi,hyi,hb⟩:=Ï.mp hb;cases B42 hyi;obtain⟨k,rfl⟩:=j32 ho hb;have hw:w=.int yi:=by
  cases s0 with
  |d x=>cases hy;exact(show Hd X.K (hw ow (hz zA H)) (.int yi) w from k2.2).j60
  |_=>cases hy
 refine⟨yi,xi,k,hw,(show Hd X.K (hz zA H1) (.int xi) u from rv.pl.d_ hs1).j60,hb,?_⟩;obtain⟨ρ',hp,e5⟩:=M.a20 e4;cases e5;have:=k91 (R:=λσ' H'=>D.nx σ' H') rw x1 h50 hp λow' σ' r' sm=>po zA ow' σ' H1 r' st1 sm;rw[T02] at this;exact this
theorem x_raise(x:XS lm X G E N sc cn){c:Nat}{n:Str}{y:Str}{k:Nat}{p1 p2 p3 p4:Pos}(hc:cn[c]?=some n)(hg:glob sc n=true):PS X (.Raise (some (.Call (.Name n p1) [.Constant (.str y) k p2] [] p3)) none p4) (tX X.K G E H0 zE (.rais c)):=by
 obtain⟨k1,k2,_⟩:=f00 hg;obtain⟨m1,m2⟩:=x.cls c n hc;refine PS.imp (O91 x.can x.calm (x.glb n k1) m1 m2 (o30 V41 L10) k2 rfl rfl) λD σ H q=>?_;obtain⟨zA,ow,ρ,z,rr,rw,st,ee,po⟩:=q;cases ee;exact⟨by show 1<=sizeLine;decide,λe hn=>po e H rw.ext (q12 rw.zok st) hn⟩
end
section
variable {K:Â}{H0 H H':Hp}{zE zA:Option È}{ow:Nat->Option È}{ρ:Env}{σ:L2.St}
theorem j00(e:ow0 ow i j=some a):j≠i/\ow j=some a:=by
 unfold ow0 at e;split at e
 ·cases e
 ·rename_i n;exact⟨n,e⟩
theorem y00:ow0 ow i i=none:=if_pos rfl
theorem l01(h:j≠i):ow0 ow i j=ow j:=if_neg h
theorem R61{ρ:Env}{j:Nat}{s:S}(h:(W30 ρ)[j]?=some (some s)):ρ[j]?=some (some s)/\s≠.z:=by
 unfold W30 at h;rw[ã] at h;obtain⟨o,e1,e2⟩:=Ì.mp h;cases o with
 |none=>cases e2
 |some t =>
  cases t with
  |z=>cases e2
  |d x=>cases e2;exact⟨e1,λh=>nomatch h⟩
  |fr x=>cases e2;exact⟨e1,λh=>nomatch h⟩
  |ks x=>cases e2;exact⟨e1,λh=>nomatch h⟩
theorem j42{j:Nat}(h:ρ[j]?=some (some (.fr xs))):(W30 ρ)[j]?=some (some (.fr xs)):=by
 unfold W30;rw[ã,h];rfl
theorem RW.a23(r:RW K H0 none zA ow H ρ σ){i:Nat}(x:Ext zA H H')(hn:H a=none)(za:zA≠some a)(hl:H' a=some (.lst ys)) :
  RW K H0 none (some a) (ow0 ow i) H' ((W30 ρ).set i (some .z)) (σ.set i (some (.ref a)))/\a30 (hw ow (hz zA H)) (hw (ow0 ow i) (hz (some a) H')):=by
 have r':=r.mono x;have old:∀ j b,ow j=some b->b≠a:=λj b e q=>by
  obtain⟨zs,h1⟩:=r.lst j b e;rw[q,hn] at h1;cases h1
 have sm:a30 (hw ow (hz zA H)) (hw (ow0 ow i) (hz (some a) H')):=λb o e=>by
  obtain⟨e1,e2⟩:=H50 e;have hb:b≠a:=λq=>by
   have e3:H b=some o:=(v60 e1).1;rw[q,hn] at e3;cases e3
  exact j70 (e00 (v60 (x b o e1)).1 (λq=>by cases q;exact hb rfl) (x40 e1)) λj q=>e2 j (j00 q).2
 have dl:(W30 ρ).length=ρ.length:=by unfold W30;rw[Å]
 refine⟨⟨by rw[Å0,Å0,dl];exact r.len,λj k b h1 h2=>r.inj j k b (j00 h1).2 (j00 h2).2,λj b h1 q=>?_,λj b h1=>?_,λj s e=>?_,r'.ext,.inr ⟨rfl,λb q=>?_⟩,λj b h1=>r.new j b (j00 h1).2⟩,sm⟩
 ·cases q;exact old j _ (j00 h1).2 rfl
 ·obtain⟨n,h2⟩:=j00 h1;obtain⟨xs,h3⟩:=r.own j b h2;exact⟨xs,by rw[ë (Â4 n)];exact j42 h3⟩
 ·rcases getElem?_set' e with ⟨rfl,e1,hlt⟩ | ⟨n,e1⟩
  ·cases e1;exact⟨.ref a,ï (by rw[← r.len,← dl];exact hlt),y00,a,rfl,rfl⟩
  ·obtain⟨e1,nz⟩:=R61 e1;obtain⟨w,h1,h2⟩:=r.wor j s e1;refine⟨w,by rw[ë (Â4 n)];exact h1,?_⟩
   cases s with
   |d y=>exact⟨by rw[l01 n];exact h2.1,h2.2.same sm⟩|z=>exact absurd rfl nz|ks l=>obtain⟨n0,d,q,k⟩:=h2;exact⟨by rw[l01 n];exact n0,d,q,k.same sm⟩
   |fr xs =>
    obtain⟨b,zs,k1,rfl,k3,k4⟩:=h2;exact⟨b,zs,by rw[l01 n];exact k1,rfl,x.at k3 (r.zne j b k1),k4.same sm⟩
 ·cases q;exact(r.young hn za).1
theorem RW.plain(r:RW K H0 zE zA ow H ρ σ)(i:Nat):RW K H0 zE zA (ow0 ow i) H (ρ.set i ((ρ[i]?.getD none).map plS)) σ:=by
 have sm:=s90 (H:=hz zA H) ow i;refine⟨by rw[Å0];exact r.len,λj k b h1 h2=>r.inj j k b (j00 h1).2 (j00 h2).2,λj b h1=>r.zne j b (j00 h1).2,λj b h1=>?_,λj s e=>?_,r.ext,r.zok,λj b h1=>r.new j b (j00 h1).2⟩
 ·obtain⟨n,h2⟩:=j00 h1;obtain⟨xs,h3⟩:=r.own j b h2;exact⟨xs,by rw[ë (Â4 n)];exact h3⟩
 ·rcases getElem?_set' e with ⟨rfl,e1,hlt⟩ | ⟨n,e1⟩
  ·cases hs:ρ[j]? with
   |none=>rw[hs] at e1;cases e1
   |some o =>
    rw[hs] at e1;cases o with
    |none=>cases e1
    |some s0 =>
     cases e1;obtain⟨w,h1,h2⟩:=r.wor j s0 hs;refine⟨w,h1,?_⟩;cases s0 with
     |d y=>exact⟨y00,h2.2.same sm⟩|z=>exact⟨y00,h2.2⟩|ks l=>obtain⟨_,d,q,k⟩:=h2;exact⟨y00,d,q,k.same sm⟩
     |fr xs =>
      obtain⟨b,zs,k1,rfl,k3,k4⟩:=h2;refine⟨y00,Hd.lst (j70 (e00 k3 (r.zne j b k1)) λk q=>?_) (k4.same sm)⟩;obtain⟨q1,q2⟩:=j00 q;exact q1 (r.inj k j b q2 k1)
  ·obtain⟨w,h1,h2⟩:=r.wor j s e1;exact⟨w,h1,h2.move (l01 n) sm λ_ _=>rfl⟩
end
theorem HdA.eraseIdx{K:Â}{H:Hp}:∀ {ds:List D}{vs:List V} (n:Nat),HdA K H ds vs->HdA K H (ds.eraseIdx n) (vs.eraseIdx n)
 |[],_,n,h=>by rw[h.g40];exact .nil
 |d::ds,_,0,h=>by
  obtain⟨x,r,rfl,h1,h2⟩:=h.c50;exact h2
 |d::ds,_,n + 1,h=>by
  obtain⟨x,r,rfl,h1,h2⟩:=h.c50;exact .cons h1 (HdA.eraseIdx n h2)
section
variable {lm:Bool}{X:Cx}{G:Gs}{E:XK}{N:List Str}{sc:Á2}{cn:List Str}{H0:Hp}{zE:Option È}
theorem D71{α β:Type}{R:α->β->Prop}{a:α}{vs:List β}(h:Ä5 R [a] vs):∃ v,vs=[v]/\R a v:=by
 cases h with
 |cons h1 h2=>cases h2;exact⟨_,rfl,h1⟩
theorem f20.a80(st:f20 zA z H)(n:zA≠some a)(h:H a=some (.lst xs)):f20 zA z (upd H a o):=by
 refine⟨?_,λp hp=>Tab.upd (st.tab p hp) h⟩;have st:=st.zat;cases zA with
 |none=>cases z <;> exact st
 |some b =>
  cases z with
  |none=>exact st
  |some p =>
   have hb:b≠a:=λq=>n (by rw[q])
   exact(L2.a80 hb).trans st
theorem D81(h:ownAt ρ i=some xs):ρ[i]?=some (some (.fr xs)):=by
 unfold ownAt at h;split at h
 ·rename_i h1;cases h;exact h1
 ·cases h
theorem j52{K:Â}{zA:Option È}{H0 H:Hp}{s:S}{v:V}{x:D}(h:RvS K zA H0 H s v)(e:plD s=some x):Hd K (hz zA H) x v:=h.pl.d_ e
theorem P22(x:XS lm X G E N sc cn){i:Nat}{n:Str}{e:Ex}{v:Ò}{p apos cpos pos:Pos}(h1:N[i]?=some n)(h2:c70 n=true)(ns:noStar v=true)(g:b00 X G E e v)(hl:(apos.endLine == cpos.line)=true) :
  PS X (.Expr (.Call (.Attribute (.Name n p) "append" apos) [v] [] cpos) pos) (tX X.K G E H0 zE (.app i e)):=by
 unfold c70 at h2;simp only[À,á] at h2;have ga:Good X G E (.cons e .nil) [v]:=⟨v,[],rfl,ns,g,rfl,rfl⟩;have hs:=d30 ns [] X.env;refine PS.imp (b81 (c72 Ï5 Û7 Û6 V60 (w90 (i:=i) (by rw[x.hN];exact h1) (x.vis n (ô h1)) h2.1 h2.2) (ga.args rfl).1 rfl (by rw[hs];rfl) hl hs rfl) (x90 rfl none)) λD σ H q=>?_
 obtain⟨zA,ow,ρ,z,rr,rw,st,ee,po⟩:=q;obtain⟨xs,hx,e1⟩:=M.a20 ee;have ho:=D81 hx;obtain⟨w,k1,a,ys,k2,rfl,k3,k4⟩:=rw.wor i _ ho;refine⟨_,k1,.inl ⟨rfl,ys,SqL.of k3⟩,?_⟩;have e2:M.bind (ev G.F (.cons e .nil) ρ) (λm=>M.bind (M.of (pl m)) λx=>if bare x=true/\xs.length < most then M.ret (O.nx (ρ.set i (some (.fr (xs++[x]))))) else M.no) z=some rr∨∃ c z1,ev G.F e ρ z=some (.er c z1)/\rr=.er c z1:=by
  rcases M.bind_some e1 with ⟨l,z1,e3,e4⟩ | ⟨c,z1,e3,e4⟩
  ·obtain⟨y,hy,e5⟩:=M.a20 e4;obtain⟨s,rfl,hs⟩:=g50 hy;refine .inl ?_;show M.bind (M.bind (ev G.F e ρ) λx=>M.bind (M.of (one x)) λs=>M.bind (ev G.F .nil ρ) λy=>M.ret (s::y)) _ z=some rr;have b:∀ {α β:Type}{m:M α}{f:α->M β}{z:Z}{a:α}{z1:Z},m z=some (.ok a z1)->M.bind m f z=f a z1:=λh=>by unfold M.bind;rw[h]
   rw[b (a:=[s]) (z1:=z1) (by rw[b e3];rfl)]
   show M.bind (M.of (pl _)) _ _=_;rw[hy];exact e5
  ·exact .inr ⟨c,z1,e3,e4⟩
 rcases e2 with e2 | ⟨c,z1,e3,rfl⟩
 ·refine s31 rw.X60 st e2 (po.ers rw) λl z1 e3 vs H1 x1 st1 rvs=>?_;obtain⟨y,hy,e5⟩:=M.a20 e3;obtain⟨s,rfl,hs⟩:=g50 hy;split at e5
  ·rename_i hb;cases e5;obtain⟨u,rfl,ru⟩:=D71 rvs;have r1:=rw.mono x1;have k3':=x1.at k3 (rw.zne i a k2);have k4':HdA X.K (hw ow (hz zA H1)) xs ys:=k4.same (d90 x1);have hd:=Q50 r1.Y21 hb.1 (j52 ru hs);refine⟨a,ys,u,rfl,rfl,k3',Ý (by rw[k4.length];exact hb.2) (g60 (Ê _)),?_⟩
   refine po zA ow σ _ (r1.upd k2 (k4'.append (.cons hd .nil))) ?_ (a30.trans (d90 x1) (e81 k2));exact st1.a80 (rw.zne i a k2) k3'
  ·cases e5
 ·refine⟨zA,ρ,z,.er c z1,rw.X60,st,?_,po.er_ rw⟩;show M.bind (ev G.F e ρ) _ z=_;simp only[M.bind,e3]
theorem B52(x:XS lm X G E N sc cn){i f:Nat}{as:Ex}{y:Str}{v:Ò}{px pos:Pos}(hi:N[i]?=some y)(hl:Q60 sc y=true)(g:b00 X G E (.call f as) v)(hv:X70 v=true) :
  PS X (.Assign [.Name y px] v pos) (tX X.K G E H0 zE (.newz i f as)):=by
 have L:=x.loc;refine PS.imp (i11 (i:=i) (by rw[x.hN];exact x.nd) (by rw[x.hN];exact hi) (L.lc y hl) g.pe (x90 hv _) (L.fn y hl)) λD σ H q=>?_
 obtain⟨zA,ow,ρ,z,rr,rw,st,ee,po⟩:=q;refine l40 rw.X60 st ee (po.ers rw) λl z1 e1=>?_;have e2:A21 zE.isNone ρ i l=some rr:=e1;unfold A21 at e2;split at e2
 ·split at e2
  ·rename_i m b hz';cases e2;have zn:zE=none:=by
    cases zE with
    |none=>rfl|some _=>cases hz'
   subst zn;refine⟨_,rfl,λu H1 x1 st1 rv=>?_⟩;obtain⟨a,ys,rfl,k1,k2,k3,k4⟩:=rv;obtain⟨v1,v2,rfl,h3,h4⟩:=k4.two;cases h3.j60;cases h4.bl_;obtain⟨r1,sm⟩:=rw.a23 (i:=i) x1 k1 k2 k3;exact po (some a) _ _ H1 r1 ⟨k3,st1.tab⟩ sm
  ·cases e2
 ·cases e2
theorem B62(x:XS lm X G E N sc cn){i:Nat}{n:Str}{e:Ex}{v:Ò}{c:Nat}{p q tp pos:Pos}(h1:N[i]?=some n)(h2:c70 n=true)(g:b00 X G E e v) :
  PS X (.Assign [.Subscript (.Name n p) (.Constant (.int 0) c q) tp] v pos) (tX X.K G E H0 zE (.zset i e)):=by
 unfold c70 at h2;simp only[À,á] at h2;refine PS.imp (V61 g.pe (s22 (w90 (i:=i) (by rw[x.hN];exact h1) (x.vis n (ô h1)) h2.1 h2.2) u91 set_list (by intro u;rfl)) (show Ï7 v (some (.Subscript (.Name n p) (.Constant (.int 0) c q) tp)) pos.line X.env=pure false from X80 rfl) (by cases v <;> rfl)) λD σ H q=>?_
 obtain⟨zA,ow,ρ,z,rr,rw,st,ee,po⟩:=q;refine l40 rw.X60 st ee (po.ers rw) λl z1 e1=>?_;obtain⟨y,hy,e2⟩:=M.a20 e1;obtain⟨dy,hy1,hy2⟩:=Ï.mp hy;obtain⟨s,rfl,hs⟩:=g50 hy1;refine⟨s,rfl,λu H1 x1 st1 rv=>?_⟩;have e3:A31 ρ y ρ[i]? z1=some rr:=e2;unfold A31 at e3;split at e3
 ·rename_i p' hsl;cases e3;have r1:=rw.mono x1;obtain⟨w,k1,k2,a,rfl,rfl⟩:=r1.wor i .z hsl;have hu:u=.int y:=by
   have:=j52 rv hs;cases dy <;> first | (cases hy2;exact this.j60) | (cases hy2;done)
  subst hu;have st':H1 a=some (.lst [.int p'.1,.bl p'.2]):=st1.zat;refine⟨_,k1,a,[.int p'.1,.bl p'.2],0,0,rfl,rfl,st',rfl,?_⟩;have x2:Ext (some a) H1 (upd H1 a (.lst [.int y,.bl p'.2])):=by
   refine⟨λb o h=>?_,λb ps h=>⟨ps,by rw[a80 (λz=>by rw[z,st'] at h;cases h)];exact h⟩⟩
   obtain⟨h3,h4⟩:=v60 h;exact e00 (by rw[a80 (λz=>h4 (by rw[z]))];exact h3) h4 (x40 h)
  exact po (some a) ow σ _ (r1.mono x2) ⟨d10,λp hp=>Tab.upd (st1.tab p hp) st'⟩ (a30.trans (d90 x1.same) (d90 x2.same))
 ·cases e3
theorem P32(x:XS lm X G E N sc cn)(g:b00 X G E c ce)(hn:∀ t a b p,ce≠.IfExp t a b p)(hb:PSs X body (tX X.K G E H0 zE b)):PS X (.While ce body [] pos) (tX X.K G E H0 zE (.whl c b)):=by
 refine PS.imp (L51 x.own (g.pt hn) hb) λD σ H q=>?_;obtain⟨zA,ow,ρ,z,rr,rw,st,ee,po⟩:=q;refine⟨λm σ H=>∃ zA ow ρ z r,RW X.K H0 zE zA ow H ρ σ/\f20 zA z H/\W81 (ev G.F c) (ex G.F zE.isNone b) m ρ z=some r/\t80 X.K G E H0 zE (hw ow (hz zA H)) D r,⟨p62,zA,ow,ρ,z,rr,rw,st,ee,po⟩,?_⟩;rintro m σ H ⟨zA,ow,ρ,z,rr,rw,st,ee,po⟩;cases m with
 |zero=>cases ee
 |succ m =>
  refine X00 rw.X60 st ee (po.ers rw) λk z1 e1 H1 x1 st1=>?_;have r1:=rw.mono x1;have sm:a30 (hw ow (hz zA H)) (hw ow (hz zA H1)):=d90 x1;cases k with
  |false =>
   cases e1;exact po zA ow σ H1 r1 st1 sm
  |true =>
   rw[if_pos rfl];have e2:M.bind (ex G.F zE.isNone b ρ) (λo=>match o with | .nx ρ=>W81 (ev G.F c) (ex G.F zE.isNone b) m ρ | .rt s=>M.ret (.rt s)) z1=some rr:=e1
   refine⟨λσ' H'=>∃ zA ow ρ z r,RW X.K H0 zE zA ow H' ρ σ'/\f20 zA z H'/\W81 (ev G.F c) (ex G.F zE.isNone b) m ρ z=some r/\t80 X.K G E H0 zE (hw ow (hz zA H')) D r,λσ' H' h=>⟨m,Ú4 m,h⟩,?_⟩;rcases M.bind_some e2 with ⟨o,z2,e3,e4⟩ | ⟨k,z2,e3,e4⟩
   ·refine⟨zA,ow,ρ,z1,_,r1,st1,e3,?_⟩;cases o with
    |nx ρ1=>exact λzA' ow' σ' H' rw' st' sm'=>⟨zA',ow',ρ1,z2,rr,rw',st',e4,po.mono (a30.trans sm sm')⟩|rt s=>cases e4;exact po
   ·subst e4;exact⟨zA,ow,ρ,z1,_,r1,st1,e3,po⟩
theorem j62{i j:Nat}{e:Ex}{D:Ends}{σ:L2.St}{H:Hp}{zA:Option È}{ow:Nat->Option È}{ρ:Env}{z:Z}{rr:R O}(rw:RW X.K H0 zE zA ow H ρ σ)(st:f20 zA z H)(ee:v92 G.F i j e ρ z=some rr)(po:t80 X.K G E H0 zE (hw ow (hz zA H)) D rr) :
  r92 (tBM X.K "list" w71 (r02 i) (t52 (tBM X.K "list" W11 (r02 j) (tA X.K G E (.cons e .nil))) R82)) D σ H:=by
 obtain⟨xs,hx,e1⟩:=M.a20 ee;obtain⟨ys,hy,e1⟩:=M.a20 e1;have ho:=D81 hx;have hp:=D81 hy;obtain⟨w,k1,a,us,k2,rfl,k3,k4⟩:=rw.wor i _ ho;obtain⟨w',m1,b,ws,m2,rfl,m3,m4⟩:=rw.wor j _ hp;refine⟨_,k1,.inl ⟨rfl,us,SqL.of k3⟩,⟨_,m1,.inl ⟨rfl,ws,SqL.of m3⟩,?_⟩⟩;rcases M.bind_some e1 with ⟨l,z1,e3,e4⟩ | ⟨c,z1,e3,e4⟩
 ·obtain⟨k,hk,e5⟩:=M.a20 e4;obtain⟨dk,hk1,hk2⟩:=Ï.mp hk;obtain⟨s,rfl,hs⟩:=g50 hk1;obtain⟨o,hv,e6⟩:=M.a20 e5;cases e6;refine⟨zA,ρ,z,.ok [s] z1,rw.X60,st,?_,λvs H1 x1 st1 rvs=>?_⟩
  ·show M.bind (ev G.F e ρ) _ z=_;simp only[M.bind,e3,M.of,one,M.ret,ev]
  obtain⟨u,rfl,ru⟩:=D71 rvs;have hu:u=.int k:=by
   have:=j52 ru hs;cases dk <;> first | (cases hk2;exact this.j60) | (cases hk2;done)
  subst hu;unfold A11 at hv;split at hv
  ·rename_i hb;have hkk:=G40.mp hb.2.2.1;obtain⟨y,hy1,hv⟩:=Ï.mp hv;split at hv
   ·rename_i hby;cases hv;have r1:=rw.mono x1;have m4':HdA X.K (hw ow (hz zA H1)) ys ws:=m4.same (d90 x1);have k4':HdA X.K (hw ow (hz zA H1)) xs us:=k4.same (d90 x1);obtain⟨yv,g1,g2⟩:=m4'.get hy1;have hlt:k.toNat < ws.length:=(Þ.mp g1).1;have hab:a≠b:=λq=>hb.1 (rw.inj i j a k2 (by rw[q];exact m2))
    refine⟨b,ws,k,k.toNat,yv,rfl,rfl,x1.at m3 (rw.zne j b m2),by omega,by omega,?_,g1,?_⟩
    ·have h0:(0:Int)<=k:=hb.2.1;exact Ý1 h0 ∅
    ·have r2:=r1.upd m2 (m4'.eraseIdx k.toNat);have sm2:=e81 (H:=H1) (zA:=zA) (o:=.lst (ws.eraseIdx k.toNat)) m2;refine⟨a,us,yv,rfl,rfl,?_,?_,?_⟩
     ·rw[a80 hab];exact x1.at k3 (rw.zne i a k2)
     ·exact Ý (by rw[k4.length];exact hb.2.2.2) (g60 (Ê _))
     ·exact po zA ow σ _ (r2.upd k2 ((k4'.same sm2).append (.cons (g2.same sm2) .nil))) ((st1.a80 (rw.zne j b m2) (x1.at m3 (rw.zne j b m2))).a80 (rw.zne i a k2) (by rw[a80 hab];exact x1.at k3 (rw.zne i a k2))) (a30.trans (d90 x1) (a30.trans sm2 (e81 k2)))
   ·cases hv
  ·cases hv
 ·subst e4;refine⟨zA,ρ,z,.er c z1,rw.X60,st,?_,po.er_ rw⟩;show M.bind (ev G.F e ρ) _ z=_;simp only[M.bind,e3]
theorem B72(x:XS lm X G E N sc cn){i j:Nat}{n m:Str}{e:Ex}{v:Ò}{p p' apos cpos apos' cpos' pos:Pos}(h1:N[i]?=some n)(h2:c70 n=true)(h3:N[j]?=some m)(h4:c70 m=true)(ns:noStar v=true)(g:b00 X G E e v)(hl:(apos.endLine == cpos.line)=true)(hl':(apos'.endLine == cpos'.line)=true) :
  PS X (.Expr (.Call (.Attribute (.Name n p) "append" apos) [.Call (.Attribute (.Name m p') "pop" apos') [v] [] cpos'] [] cpos) pos) (tX X.K G E H0 zE (.apop i j e)):=by
 unfold c70 at h2 h4;simp only[À,á] at h2 h4;have ga:Good X G E (.cons e .nil) [v]:=⟨v,[],rfl,ns,g,rfl,rfl⟩;have hs:=d30 ns [] X.env;refine PS.imp (b81 (c72 Ï5 Û7 Û6 V60 (w90 (i:=i) (by rw[x.hN];exact h1) (x.vis n (ô h1)) h2.1 h2.2)
  (o30 (c72 Ï5 PySem.F.slot_list_pop PySem.F.type_list_pop M41 (w90 (i:=j) (by rw[x.hN];exact h3) (x.vis m (ô h3)) h4.1 h4.2) (ga.args rfl).1 rfl (by rw[hs];rfl) hl' hs rfl) L10) rfl rfl hl rfl rfl) (x90 rfl none)) λD σ H q=>?_
 obtain⟨zA,ow,ρ,z,rr,rw,st,ee,po⟩:=q;exact j62 rw st ee po
def P42(K:Â)(i:Nat):TI:=λσ H R=>∃ a,σ[i]?=some (some (.ref a))/\((∃ ys,SqT K H a ys)/\R (Itt K a) H∨(∃ ys,SqL K H a ys)/\R (Itl K a) H)
theorem B82(x:XI lm X G E N sc){tg:Ò}{i:Nat}{n:Str}{pos:Pos}(h1:N[i]?=some n)(h2:c70 n=true):PI X tg (.Name n pos) (P42 X.K i):=by
 unfold c70 at h2;simp only[À,á] at h2;have hv:PE X (.Name n pos) (r02 i):=w90 (i:=i) (by rw[x.hN];exact h1) (x.vis n (ô h1)) h2.1 h2.2
 intro pins s σ H R I q;obtain⟨a,k,q | q⟩:=q
 ·exact V71 hv pins s σ H R I ⟨_,k,a,rfl,q.1,q.2⟩
 ·exact b91 hv pins s σ H R I ⟨_,k,a,rfl,q.1,q.2⟩
def fBody(F:FT)(tp:Bool)(p:Pat)(b:Sm):D->Env->M O:=λx ρ=>M.bind (M.of (g30 p x ρ)) λρ=>ex F tp b ρ
theorem H70:∀ {l:List D}{d:D},h20 l=true->d∈l->bare d=true
 |x::r,d,h,hd=>by
  simp only[h20,À] at h;rcases à.mp hd with rfl | hd
  ·exact h.1
  ·exact H70 h.2 hd
theorem l11{p:Pat}{b:Sm}{J:L2.It}{xs:List D}{B:Hp}{D:Ends}{σ:L2.St}{H:Hp}{zA:Option È}{ow:Nat->Option È}{ρ:Env}{z:Z}{rr:R O}(IT:ItB X.K J xs B)
  (rw:RW X.K H0 zE zA ow H ρ σ) (st:f20 zA z H) (sm:a30 B (hw ow (hz zA H))) (ee:b31 (fBody G.F zE.isNone p b) xs ρ z=some rr) (po:t80 X.K G E H0 zE (hw ow (hz zA H)) D rr) :
  ∃ W:Nat->Nat->L2.St->Hp->Prop,(∃ m,W 0 m σ H)/\∀ i m σ H,W i m σ H ->
   (J.stop i H/\D.nx σ H)∨(J.go i H/\∃ Nn:L2.St->Hp->Prop,(∀ σ' H',Nn σ' H'->∃ m',m' < m/\W (i + 1) m' σ' H')/\∀ x H',J.yld i H x H'->gP X.K p x σ H' λσ2 H2=>tX X.K G E H0 zE b { D with nx:=Nn,ct:=Nn,bk:=D.nx } σ2 H2):=by
 refine⟨λi m σ H=>m=xs.length - i/\i<=xs.length/\∃ zA ow ρ z r,RW X.K H0 zE zA ow H ρ σ/\f20 zA z H/\a30 B (hw ow (hz zA H))/\b31 (fBody G.F zE.isNone p b) (xs.drop i) ρ z=some r/\t80 X.K G E H0 zE (hw ow (hz zA H)) D r,
  ⟨xs.length,by simp,Æ6 _,zA,ow,ρ,z,rr,rw,st,sm,by simpa using ee,po⟩,?_⟩
 rintro i m σ H ⟨rfl,hi,zA,ow,ρ,z,rr,rw,st,sm,ee,po⟩;have sH:a30 B H:=a30.trans sm (a30.trans i90 (a10 zA H));by_cases hlt:i < xs.length
 ·refine .inr ⟨IT.go i H sH hlt,λσ' H'=>∃ zA ow ρ z r,RW X.K H0 zE zA ow H' ρ σ'/\f20 zA z H'/\a30 B (hw ow (hz zA H'))/\b31 (fBody G.F zE.isNone p b) (xs.drop (i + 1)) ρ z=some r/\t80 X.K G E H0 zE (hw ow (hz zA H')) D r,
   λσ' H' h=>⟨xs.length - (i + 1),by omega,rfl,hlt,h⟩,λx H' y=>?_⟩
  have hd0:xs[i]?=some xs[i]:=Ñ hlt;obtain⟨s1,hd⟩:=IT.yld i H x H' zA z _ (a30.trans sm i90) st y hd0;rw[É2 hlt] at ee;have e0:M.bind (fBody G.F zE.isNone p b xs[i] ρ) (λo=>match o with | .nx ρ=>b31 (fBody G.F zE.isNone p b) (xs.drop (i + 1)) ρ | .rt s=>M.ret (.rt s)) z=some rr:=ee
  have r1:=rw.mono (Ext.of s1);have st1:=st.same s1;have sm1:a30 (hw ow (hz zA H)) (hw ow (hz zA H')):=d90 (m30 s1);have hd1:=hd (hw ow (hz zA H')) (a30.trans sm sm1) λ_ _ q=>k81 q r1.Y21;have fin:∀ {ρ1:Env}{o:O}{z1:Z},g30 p xs[i] ρ=some ρ1->ex G.F zE.isNone b ρ1 z=some (.ok o z1)->(match o with | .nx ρ=>b31 (fBody G.F zE.isNone p b) (xs.drop (i + 1)) ρ | .rt s=>M.ret (.rt s)) z1=some rr->gP X.K p x σ H' λσ2 H2=>tX X.K G E H0 zE b { D with nx:=λσ' H'=>∃ zA ow ρ z r,RW X.K H0 zE zA ow H' ρ σ'/\f20 zA z H'/\a30 B (hw ow (hz zA H'))/\b31 (fBody G.F zE.isNone p b) (xs.drop (i + 1)) ρ z=some r/\t80 X.K G E H0 zE (hw ow (hz zA H')) D r,ct:=λσ' H'=>∃ zA ow ρ z r,RW X.K H0 zE zA ow H' ρ σ'/\f20 zA z H'/\a30 B (hw ow (hz zA H'))/\b31 (fBody G.F zE.isNone p b) (xs.drop (i + 1)) ρ z=some r/\t80 X.K G E H0 zE (hw ow (hz zA H')) D r,bk:=D.nx } σ2 H2:=λ{ρ1 o z1} hbp e1 e2=>by
   refine R31 hbp r1 hd1 λow' σ' r2 sm2=>⟨zA,ow',ρ1,z,_,r2,st1,e1,?_⟩;cases o with
   |nx ρ2=>exact λzA3 ow3 σ3 H3 r3 st3 sm3=>⟨zA3,ow3,ρ2,z1,rr,r3,st3,a30.trans sm (a30.trans sm1 (a30.trans sm2 sm3)),e2,po.mono (a30.trans sm1 (a30.trans sm2 sm3))⟩|rt s=>cases e2;exact po
  rcases M.bind_some e0 with ⟨o,z1,e1,e2⟩ | ⟨c,z1,e1,e2⟩
  ·obtain⟨ρ1,hbp,e3⟩:=M.a20 e1;exact fin hbp e3 e2
  ·subst e2;obtain⟨ρ1,hbp,e3⟩:=M.a20 e1;exact R31 hbp r1 hd1 λow' σ' r2 sm2=>⟨zA,ow',ρ1,z,_,r2,st1,e3,po⟩
 ·have e:i=xs.length:=by omega
  subst e;rw[drop_length] at ee;cases ee;exact .inl ⟨IT.stop H sH,po zA ow σ H rw st (a30.refl _)⟩
theorem B92(x:XS lm X G E N sc cn){p:Pat}{i:Nat}{n:Str}{b:Sm}{tg:Ò}{body:List Ç9}{np pos:Pos}(hp:l50 N (Q60 sc) p tg=true)(h1:N[i]?=some n)(h2:c70 n=true)(hb:PSs X body (tX X.K G E H0 zE b)) :
  PS X (.For tg (.Name n np) body [] pos) (tX X.K G E H0 zE (.fr p .seq (.cons (.var i) .nil) b)):=by
 refine PS.imp (V81 x.own x.calm (B82 x.toXI h1 h2) (B81 x.loc hp) hb (λ_=>rfl)) λD σ H q=>?_;obtain⟨zA,ow,ρ,z,rr,rw,st,ee,po⟩:=q;have e0:M.bind (M.bind (match ρ[i]? with | some (some s)=>M.ret [plS s] | _=>M.no) λx=>M.bind (M.of (one x)) λs=>M.bind (ev G.F .nil ρ) λy=>M.ret (s::y)) (λl=>M.bind (M.of ((plA l).bind (itD .seq))) λxs=>b31 (fBody G.F zE.isNone p b) xs (A01 .seq (.cons (.var i) .nil) l ρ)) z=some rr:=ee
 cases hs:ρ[i]? with
 |none=>rw[hs] at e0;cases e0
 |some o =>
  cases o with
  |none=>rw[hs] at e0;cases e0
  |some s =>
   rw[hs] at e0;have e1:M.bind (M.of ((plA [plS s]).bind (itD .seq))) (λxs=>b31 (fBody G.F zE.isNone p b) xs ((ρ.set i ((ρ[i]?.getD none).map plS)).map (K30 (W50 [plS s])))) z=some rr:=e0;obtain⟨xs,hx,e2⟩:=M.a20 e1;have r1:=rw.plain i;have sm:=s90 (H:=hz zA H) ow i;have hi:i < ρ.length:=(Þ.mp hs).1;have hsl:(ρ.set i ((ρ[i]?.getD none).map plS))[i]?=some (some (plS s)):=by rw[ï hi,hs];rfl
   obtain⟨w,k1,k2⟩:=r1.wor i _ hsl;obtain⟨ds,h3,h4⟩:=Ï.mp hx;obtain⟨d,rfl,h5⟩:=C31 h3;have hd:Hd X.K (hw (ow0 ow i) (hz zA H)) d w:=by
    cases s with
    |d y=>cases h5;exact k2.2
    |fr ys=>cases h5;exact k2.2
    |_=>cases h5
   obtain⟨ow',r2,sm2⟩:∃ ow',RW X.K H0 zE zA ow' H ((ρ.set i ((ρ[i]?.getD none).map plS)).map (K30 (W50 [plS s]))) σ/\a30 (hw (ow0 ow i) (hz zA H)) (hw ow' (hz zA H)):=by
    rw[W40];cases W50 [plS s] with
    |true=>exact⟨_,r1,a30.refl _⟩|false=>exact⟨_,r1.d51,H60 _⟩
   cases d with
   |tup l =>
    cases h4;obtain⟨a,ys,rfl,m1,m2⟩:=hd.E10;exact⟨a,k1,.inl ⟨⟨ys,(a10 zA H).sqT (a30.sqT i90 m1)⟩,l11 (C01 m1 m2) r2 st sm2 e2 (po.mono (a30.trans sm sm2))⟩⟩
   |lst l =>
    cases h4;obtain⟨a,ys,rfl,m1,m2⟩:=hd.b41;exact⟨a,k1,.inr ⟨⟨ys,((m1.same i90).same (a10 zA H)).sq⟩,l11 (k31 m1 m2) r2 st sm2 e2 (po.mono (a30.trans sm sm2))⟩⟩
   |_=>cases h4
theorem P52(x:XS lm X G E N sc cn){p:Pat}{it:It}{src:Ex}{b:Sm}{tg iter:Ò}{body:List Ç9}{pos:Pos}(hp:l50 N (Q60 sc) p tg=true)(hi:PI X tg iter (tIt X.K G E it src))(hns:x70 iter=true)(hv:f72 it src=none)(hb:PSs X body (tX X.K G E H0 zE b)) :
  PS X (.For tg iter body [] pos) (tX X.K G E H0 zE (.fr p it src b)):=by
 refine PS.imp (V81 x.own x.calm hi (B81 x.loc hp) hb (e71 hns X.env)) λD σ H q=>?_;obtain⟨zA,ow,ρ,z,rr,rw,st,ee,po⟩:=q;have e0:M.bind (ev G.F src ρ) (λl=>M.bind (M.of ((plA l).bind (itD it))) λxs=>b31 (fBody G.F zE.isNone p b) xs ((W60 it src l ρ).map (K30 (W50 l)))) z=some rr:=ee;rcases M.bind_some e0 with ⟨l,z1,e1,e2⟩ | ⟨c,z1,e1,e2⟩
 ·obtain⟨xs,hx,e3⟩:=M.a20 e2;refine⟨zA,ρ,z,_,rw.X60,st,e1,xs,hx,λJ H1 x1 st1 IT=>?_⟩;have r1:=rw.mono x1;have frz:b31 (fBody G.F zE.isNone p b) xs (d51 ρ) z1=some rr->_:=λe3=>l11 (G:=G) (E:=E) (D:=D) (IT (λ_=>True) (hz zA H1) (a30.refl _) (λ_ _ q=>q) (λ_ _ _ q=>q) (λds hds d hd=>by cases d <;> first | trivial | exact λ_ _=>trivial) λ_ _ q _=>q) r1.d51 st1 (by rw[q60];exact a30.refl _) e3 (po.mono (a30.trans (d90 x1) (H60 ow)))
  rw[W40] at e3;have he:W60 it src l ρ=match s11 l with | true=>d51 ρ | false=>ρ:=by
   unfold W60;rw[hv] <;> cases s11 l <;> rfl
  have tt:d51 (d51 ρ)=d51 ρ:=by
   unfold d51;rw[Ü];refine Á9 λo _=>?_
   match o with
   |none=>rfl|some (.d _)=>rfl|some (.fr _)=>rfl|some .z=>rfl|some (.ks _)=>rfl
  cases hl:s11 l with
  |true =>
   rw[hl] at he;rw[he] at e3;dsimp only at e3;rw[tt,ite_self] at e3;exact frz e3
  |false =>
   rw[hl] at he;rw[he] at e3;dsimp only at e3;split at e3
   ·rename_i hbb;refine l11 (IT (λy=>bare y=true) (hw ow (hz zA H1)) i90 (λa ys q=>k81 q r1.Y21) (λd v hd q=>Q50 r1.Y21 hd q) (λds hds d hd=>?_) λa ys q hor=>?_) r1 st1 (a30.refl _) e3 (po.mono (d90 x1))
    ·have h:=hbb;unfold W50 at h;rw[hds] at h;have:=ä.mp h d hd;cases d with
     |tup m=>exact λy hy=>H70 this hy|lst m=>exact λy hy=>H70 this hy|_=>trivial
    ·rcases hor with ⟨hn,hm1⟩ | hm
     ·refine t70.of (j70 (e00 hm1 (st.j41 hn)) λj w=>?_);obtain⟨zs,k⟩:=rw.lst j a w;rw[hn] at k;cases k
     ·rw[hl] at hm;cases hm
   ·exact frz e3
 ·subst e2;exact⟨zA,ρ,z,_,rw.X60,st,e1,po.er_ rw⟩
end
def isQ:Sm->Bool
 |.nil=>true|.seq _ _=>true|_=>false
def j72:Ò->Bool
 |.IfExp ..=>false|_=>true
def a33:Ò->Bool
 |.SetComp ..=>false|.DictComp ..=>false|_=>true
def mtI(lm:Bool)(fns:List (Str × List Str))(nums:List (Str × Int))(it:It)(src:Ex)(sc:Á2)(N:List Str)(tg iter:Ò):Bool:=match it with
 |.seq=>mt lm fns nums src sc N [iter]|.rng1=>opt (p82 iter) λr=>r.1.1 == ("range":Str)&&glob sc r.1.1&&mt lm fns nums src sc N [r.1.2.2.1]|.rng2=>opt (p92 iter) λr=>r.1.1 == ("range":Str)&&glob sc r.1.1&&mt lm fns nums src sc N [r.1.2.2.1,r.1.2.2.2.1]|.zip=>opt (p92 iter) λr=>r.1.1 == ("zip":Str)&&glob sc r.1.1&&n40 tg&&mt lm fns nums src sc N [r.1.2.2.1,r.1.2.2.2.1]|.enum=>opt (p82 iter) λr=>r.1.1 == ("enumerate":Str)&&glob sc r.1.1&&n40 tg&&mt lm fns nums src sc N [r.1.2.2.1]
def a43:(p:Pat)->Option {q:Nat × Nat // p=.tup (.cons (.v q.1) (.cons (.v q.2) .nil))}
 |.tup (.cons (.v i) (.cons (.v j) .nil))=>some ⟨(i,j),rfl⟩|_=>none
def a53:(e:Ex)->Option {q:Ex × Ex // e=.tup (.cons q.1 (.cons q.2 .nil))}
 |.tup (.cons a (.cons b .nil))=>some ⟨(a,b),rfl⟩|_=>none
def a63:(e:Ò)->Option {q:Ò × Ò × Nat × Pos // e=.Tuple [q.1,q.2.1] q.2.2.1 q.2.2.2}
 |.Tuple [a,b] k p=>some ⟨(a,b,k,p),rfl⟩|_=>none
def a73(sc:Á2)(p:Pat)(e:Ex)(tg v:Ò):Bool:=opt (a43 p) λ_=>opt (a53 e) λ_=>opt (S82 tg) λt=>opt (a63 v) λu =>
  !(t.1.1 == t.1.2.2.1)&&sc.names.lookup t.1.1 == some .local&&sc.names.lookup t.1.2.2.1 == some .local&&t.1.2.2.2.1.line == t.1.2.1.line&&noStar u.1.1&&noStar u.1.2.1&&!([u.1.1,u.1.2.1].all (Ù6 8))&&!([u.1.1,u.1.2.1].all (constantsAlone 8))
def isNm:Ò->Bool
 |.Name ..=>true|_=>false
def dkB(sc:Á2):Ò->Ò->Bool
 |.Name y _,.DictComp ..=>sc.names.lookup y == some .cell|_,_=>false
def setB(sc:Á2)(p:Pat)(e:Ex)(tg v:Ò):Bool :=
 if isNm tg then(a33 v || dkB sc tg v) else if n40 tg then(if n40 v then(match v with | .Tuple vs _ _=>vs.all (Ù6 8) | _=>false) || (match tg with | .Tuple ts _ _=>ts.any (D51 λy=>sc.names.lookup y) | _=>false) || a73 sc p e tg v else true) else false
def j82:(e:List Ç9)->Option {q:Ò × Ò × Pos // e=[.Assign [q.1] q.2.1 q.2.2]}
 |[.Assign [tg] v p]=>some ⟨(tg,v,p),rfl⟩|_=>none
def P62:(e:List Ç9)->Option {q:Option Ò × Pos // e=[.Return q.1 q.2]}
 |[.Return v p]=>some ⟨(v,p),rfl⟩|_=>none
def a83:(e:List Ç9)->Option {q:Ò × List Ç9 × List Ç9 × Pos // e=[.If q.1 q.2.1 q.2.2.1 q.2.2.2]}
 |[.If c a b p]=>some ⟨(c,a,b,p),rfl⟩|_=>none
def P72:(e:List Ç9)->Option {q:Ò × Ò × List Ç9 × Pos // e=[.For q.1 q.2.1 q.2.2.1 [] q.2.2.2]}
 |[.For tg iter body [] p]=>some ⟨(tg,iter,body,p),rfl⟩|_=>none
def P82:(e:List Ç9)->Option {q:Ò × List Ç9 × Pos // e=[.While q.1 q.2.1 [] q.2.2]}
 |[.While c body [] p]=>some ⟨(c,body,p),rfl⟩|_=>none
def C02:(e:List Ç9)->Option {q:Ò × Pos // e=[.Raise (some q.1) none q.2]}
 |[.Raise (some x) none p]=>some ⟨(x,p),rfl⟩|_=>none
def j92:(e:List Ç9)->Option {q:Ò × Pos // e=[.Expr q.1 q.2]}
 |[.Expr v p]=>some ⟨(v,p),rfl⟩|_=>none
def P92:(e:Ò)->Option {q:Str × Pos × Str × Nat × Pos × Pos // e=.Call (.Name q.1 q.2.1) [.Constant (.str q.2.2.1) q.2.2.2.1 q.2.2.2.2.1] [] q.2.2.2.2.2}
 |.Call (.Name n p1) [.Constant (.str y) k p2] [] p3=>some ⟨(n,p1,y,k,p2,p3),rfl⟩|_=>none
def k02:(e:Ò)->Option {q:Str × Pos × Str × Pos × Ò × Pos // e=.Call (.Attribute (.Name q.1 q.2.1) q.2.2.1 q.2.2.2.1) [q.2.2.2.2.1] [] q.2.2.2.2.2}
 |.Call (.Attribute (.Name n p) a ap) [v] [] cp=>some ⟨(n,p,a,ap,v,cp),rfl⟩|_=>none
def a93:(e:Ò)->Option {q:Str × Pos × Nat × Pos × Pos // e=.Subscript (.Name q.1 q.2.1) (.Constant (.int 0) q.2.2.1 q.2.2.2.1) q.2.2.2.2}
 |.Subscript (.Name n p) (.Constant (.int 0) c q1) tp=>some ⟨(n,p,c,q1,tp),rfl⟩|_=>none
def b03:(e:Ò)->Option {q:Str × Pos × Ò × Pos // e=.Subscript (.Name q.1 q.2.1) q.2.2.1 q.2.2.2}
 |.Subscript (.Name n p) w tp=>some ⟨(n,p,w,tp),rfl⟩|_=>none
def b13:(e:Ò)->Option {q:Str × Pos // e=.Name q.1 q.2}
 |.Name n p=>some ⟨(n,p),rfl⟩|_=>none
def Q02:(e:List Ç9)->Option {q:Str × Pos × Ð6 × Ò × Pos // e=[.AugAssign (.Name q.1 q.2.1) q.2.2.1 q.2.2.2.1 q.2.2.2.2]}
 |[.AugAssign (.Name n p) op v pos]=>some ⟨(n,p,op,v,pos),rfl⟩|_=>none
def R71:Ex->Bool
 |.con .non=>true|_=>false
def mtS(lm:Bool)(fns:List (Str × List Str))(nums:List (Str × Int))(cn:List Str)(sc:Á2)(N:List Str):Sm->List Ç9->Bool
 |.nil,ss=>ss.isEmpty|.seq s r,ss=>opt ss.head? λst=>!isQ s&&isQ r&&mtS lm fns nums cn sc N s [st]&&mtS lm fns nums cn sc N r ss.tail|.set p e,ss=>opt (j82 ss) λq=>!isL e&&l50 N (Q60 sc) p q.1.1&&mt lm fns nums e sc N [q.1.2.1]&&setB sc p e q.1.1 q.1.2.1
 |.ret e,ss=>opt (P62 ss) λq=>match q.1.1 with
  |some v=>!isL e&&mt lm fns nums e sc N [v]|none=>R71 e
 |.iff c t u,ss=>opt (a83 ss) λq=>!isL c&&j72 q.1.1&&isQ t&&isQ u&&mt lm fns nums c sc N [q.1.1]&&mtS lm fns nums cn sc N t q.1.2.1&&mtS lm fns nums cn sc N u q.1.2.2.1|.fr p it src b,ss=>opt (P72 ss) λq=>l50 N (Q60 sc) p q.1.1&&isL src&&x70 q.1.2.1&&isQ b&&mtI lm fns nums it src sc N q.1.1 q.1.2.1&&mtS lm fns nums cn sc N b q.1.2.2.1|.whl c b,ss=>opt (P82 ss) λq=>!isL c&&j72 q.1.1&&isQ b&&mt lm fns nums c sc N [q.1.1]&&mtS lm fns nums cn sc N b q.1.2.1|.rais c,ss=>opt (C02 ss) λq=>opt (P92 q.1.1) λr=>cn[c]? == some r.1.1&&glob sc r.1.1|.exp e,ss=>opt (j92 ss) λq=>X70 q.1.1&&!isL e&&mt lm fns nums e sc N [q.1.1]|.app i e,ss=>opt (j92 ss) λq=>opt (k02 q.1.1) λr=>r.1.2.2.1 == ("append":Str)&&N[i]? == some r.1.1&&c70 r.1.1&&noStar r.1.2.2.2.2.1&&!isL e&&r.1.2.2.2.1.endLine == r.1.2.2.2.2.2.line&&mt lm fns nums e sc N [r.1.2.2.2.2.1]|.newz i f as,ss=>opt (j82 ss) λq=>opt (b13 q.1.1) λr=>N[i]? == some r.1.1&&Q60 sc r.1.1&&X70 q.1.2.1&&mt lm fns nums (.call f as) sc N [q.1.2.1]|.zset i e,ss=>opt (j82 ss) λq=>opt (a93 q.1.1) λr=>N[i]? == some r.1.1&&c70 r.1.1&&!isL e&&mt lm fns nums e sc N [q.1.2.1]|.apop i j e,ss=>opt (j92 ss) λq=>opt (k02 q.1.1) λr=>opt (k02 r.1.2.2.2.2.1) λt=>r.1.2.2.1 == ("append":Str)&&t.1.2.2.1 == ("pop":Str)&&N[i]? == some r.1.1&&c70 r.1.1&&N[j]? == some t.1.1&&c70 t.1.1&&noStar t.1.2.2.2.2.1&&!isL e&&r.1.2.2.2.1.endLine == r.1.2.2.2.2.2.line&&t.1.2.2.2.1.endLine == t.1.2.2.2.2.2.line&&mt lm fns nums e sc N [t.1.2.2.2.2.1]|.aug o i e,ss=>opt (Q02 ss) λq=>N[i]? == some q.1.1&&Q60 sc q.1.1&&G62 o q.1.2.2.1&&!isL e&&mt lm fns nums e sc N [q.1.2.2.2.1]
section
variable {lm:Bool}{X:Cx}{G:Gs}{E:XK}{N:List Str}{sc:Á2}{cn:List Str}{H0:Hp}{zE:Option È}
theorem Q12(x:XI lm X G E N sc){it:It}{src:Ex}{tg iter:Ò}(hL:isL src=true)(h:mtI lm G.fns G.nums it src sc N tg iter=true):PI X tg iter (tIt X.K G E it src):=by
 cases it with
 |seq =>
  obtain⟨a,rfl,ga⟩:=D11 hL (sound G src x h);exact Y11 ga
 |rng1 =>
  obtain⟨⟨⟨n,_,a,_⟩,rfl⟩,-,h⟩:=a50 h;simp only[À,beq_iff_eq] at h;exact C41 x h.1.1 h.1.2 hL (sound G src x h.2)
 |rng2 =>
  obtain⟨⟨⟨n,_,a,b,_⟩,rfl⟩,-,h⟩:=a50 h;simp only[À,beq_iff_eq] at h;exact C51 x h.1.1 h.1.2 hL (sound G src x h.2)
 |zip =>
  obtain⟨⟨⟨n,_,a,b,_⟩,rfl⟩,-,h⟩:=a50 h;simp only[À,beq_iff_eq] at h;exact C81 x h.1.2 h.1.1.1 h.1.1.2 hL (sound G src x h.2)
 |enum =>
  obtain⟨⟨⟨n,_,a,_⟩,rfl⟩,-,h⟩:=a50 h;simp only[À,beq_iff_eq] at h;exact k61 x h.1.2 h.1.1.1 h.1.1.2 hL (sound G src x h.2)
theorem l21(h:j72 e=true):∀ t a b p,e≠.IfExp t a b p:=by
 intro t a b p he;subst he;cases h
def GS(X:Cx)(G:Gs)(E:XK)(H0:Hp)(zE:Option È)(s:Sm)(ss:List Ç9):Prop:=(isQ s=true->PSs X ss (tX X.K G E H0 zE s))/\(isQ s=false->∃ st,ss=[st]/\PS X st (tX X.K G E H0 zE s))
theorem p70{s:Sm}{st:Ç9}(hq:isQ s=false)(h:PS X st (tX X.K G E H0 zE s)):GS X G E H0 zE s [st]:=⟨λk=>(by rw[hq] at k;cases k),λ_=>⟨st,rfl,h⟩⟩
theorem k12{x:XI lm X G E N sc}{e:Ex}{elt:Ò}{gs:List Comprehension}{csc:Á2}{q:Pos}(h:mt lm G.fns G.nums e sc N [.ListComp elt gs csc q]=true)(hL:isL e=false):∃ tg iter ifs,gs=[⟨tg,iter,ifs,0⟩]/\L80 X G E e elt tg iter ifs csc:=by
 cases e with
 |comp own capt p it src cond el =>
  match gs,h with
  |[⟨tg,iter,ifs,0⟩],h=>exact⟨tg,iter,ifs,rfl,X50 (λx _=>sound G src x) (λx _=>sound G cond x) (λx _=>sound G el x) x h⟩
 |nil=>cases hL
 |cons _ _=>cases hL
 |bf f as=>cases f <;> cases h
 |_=>cases h
theorem k22(h:isNm e=true):∃ y p,e=.Name y p:=by
 cases e <;> first | exact⟨_,_,rfl⟩ | cases h
theorem y10(h:n40 e=true):∃ ts k p,e=.Tuple ts k p:=by
 cases e <;> first | exact⟨_,_,_,rfl⟩ | cases h
theorem Q22(x:XS lm X G E N sc cn){p:Pat}{e:Ex}{tg v:Ò}{pos:Pos}(h1:(!isL e)=true)(h2:l50 N (Q60 sc) p tg=true)(h3:mt lm G.fns G.nums e sc N [v]=true)(h4:setB sc p e tg v=true):PS X (.Assign [tg] v pos) (tX X.K G E H0 zE (.set p e)):=by
 have g:=a90 (c10 h1) (sound G e x.toXI h3);unfold setB at h4;split at h4
 ·rename_i hn;obtain⟨y,px,rfl⟩:=k22 hn;cases p with
  |v i =>
   unfold l50 at h2;rw[À,beq_iff_eq] at h2;refine O72 x h2.1 h2.2 g (λelt gs csc q hv=>?_) (λa b c d hv=>?_) (λa b c d f hv=>?_)
   ·subst hv;exact k12 (x:=x.toXI) h3 (c10 h1)
   ·subst hv;cases h4
   ·subst hv;exact eq_of_beq h4
  |tup _=>unfold l50 at h2;cases h2
  |nil=>unfold l50 at h2;cases h2
  |cons _ _=>unfold l50 at h2;cases h2
 ·split at h4
  ·rename_i ht;split at h4
   ·rename_i hv;rw[Â9,Â9] at h4;rcases h4 with (h4 | h4) | h4
    ·obtain⟨ts,k,tp,rfl⟩:=y10 ht;obtain⟨vs,k',vp,rfl⟩:=y10 hv;exact D61 x h2 g rfl (j12 h4)
    ·obtain⟨ts,k,tp,rfl⟩:=y10 ht;obtain⟨vs,k',vp,rfl⟩:=y10 hv;refine D61 x h2 g rfl (j22 ?_);have e:X.env.kindOf=λy=>sc.names.lookup y:=by funext y;unfold Env.kindOf;rw[x.sco]
     rw[e];exact h4
    ·clear g h1 ht hv;obtain⟨⟨⟨i,j⟩,rfl⟩,-,h4⟩:=a50 h4;obtain⟨⟨⟨ea,eb⟩,rfl⟩,-,h4⟩:=a50 h4;obtain⟨⟨⟨y,px,w,py,kt,tp⟩,rfl⟩,-,h4⟩:=a50 h4;obtain⟨⟨⟨a,b,kv,vp⟩,rfl⟩,-,h4⟩:=a50 h4;simp only[À,á,beq_iff_eq] at h4;obtain⟨⟨⟨⟨⟨⟨⟨k1,k2⟩,k3⟩,k4⟩,k5⟩,k6⟩,k7⟩,k8⟩:=h4;unfold l50 at h2;simp only[s41,l50,À,beq_iff_eq] at h2;obtain⟨⟨_,h21,_⟩,⟨_,h22,_⟩,_⟩:=h2;have h3':(isL (.cons ea (.cons eb .nil))&&mt lm G.fns G.nums (.cons ea (.cons eb .nil)) sc N [a,b])=true:=h3;rw[À] at h3';have ga:Good X G E (.cons ea (.cons eb .nil)) [a,b]:=sound G (.cons ea (.cons eb .nil)) x.toXI h3'.2;refine O82 x h21 h22 (by simpa using k1) k2 k3 ga (B12 x.bk ?_ ?_ (by simpa using k1) (by rw[k4];exact beq_self_eq_true _) k5 k6 k7 k8)
     ·unfold Env.kindOf;rw[x.sco];exact k2
     ·unfold Env.kindOf;rw[x.sco];exact k3
   ·rename_i hv;exact D61 x h2 g ht (j02 (by simpa using hv))
  ·cases h4
theorem D91(h:R71 e=true):e=.con .non:=by
 unfold R71 at h;split at h
 ·rfl
 ·cases h
theorem Q32(x:XS lm X G E N sc cn)(h:(match o with | some v=>!isL e&&mt lm G.fns G.nums e sc N [v] | none=>R71 e)=true):PS X (.Return o pos) (tX X.K G E H0 zE (.ret e)):=by
 cases o with
 |some v =>
  have h:(!isL e&&mt lm G.fns G.nums e sc N [v])=true:=h;rw[À] at h;by_cases hv:∃ i,e=.var i
  ·obtain⟨i,rfl⟩:=hv;have h2:=h.2;cases v with
   |Name n p =>
    have h2:(N[i]? == some n&&c70 n)=true:=h2;rw[À,beq_iff_eq] at h2;exact B22 x h2.1 h2.2
   |_=>cases h2
  ·exact O92 (λi hi=>hv ⟨i,hi⟩) (a90 (c10 h.1) (sound G e x.toXI h.2))
 |none =>
  have he:=D91 h;subst he;refine PS.imp b62 λD σ H q=>?_;obtain⟨zA,ow,ρ,z,rr,rw,st,ee,po⟩:=q;cases ee;exact po .non H (λk=>nomatch k) rw.ext (q12 rw.zok st) (show Hd X.K (hz zE H) .non .non from Hd.non)
theorem b23(x:XS lm X G E N sc cn){p:Pat}{it:It}{src:Ex}{b:Sm}{tg iter:Ò}{body:List Ç9}{pos:Pos}(h1:l50 N (Q60 sc) p tg=true)(h2:isL src=true)(h3:x70 iter=true)(h5:mtI lm G.fns G.nums it src sc N tg iter=true)(hb:PSs X body (tX X.K G E H0 zE b)) :
  PS X (.For tg iter body [] pos) (tX X.K G E H0 zE (.fr p it src b)):=by
 cases hv:f72 it src with
 |some q =>
  obtain⟨i,rfl,rfl⟩:=q;have h5':(noStar iter&&!isL (.var i)&&isL .nil&&mt lm G.fns G.nums (.var i) sc N [iter]&&mt lm G.fns G.nums .nil sc N [])=true:=h5;simp only[À] at h5';have h7:=h5'.1.2;cases iter with
  |Name n np =>
   have h7:(N[i]? == some n&&c70 n)=true:=h7;rw[À,beq_iff_eq] at h7;exact B92 x h1 h7.1 h7.2 hb
  |_=>cases h7
 |none=>exact P52 x h1 (Q12 x.toXI h2 h5) h3 hv hb
theorem C12(x:XS lm X G E N sc cn):∀ (s:Sm) {ss:List Ç9},mtS lm G.fns G.nums cn sc N s ss=true->GS X G E H0 zE s ss:=by
 intro s
 induction s with
 |nil =>
  intro ss h;have:ss=[]:=Ñ1.mp h;subst this;exact⟨λ_=>O52,λk=>by cases k⟩
 |seq s r ihs ihr =>
  intro ss h;obtain⟨st,h0,h⟩:=a50 h;cases ss with
  |nil=>cases h0
  |cons st' rest =>
   cases h0;simp only[À,á,List.tail_cons] at h;obtain⟨⟨⟨h1,h2⟩,h3⟩,h4⟩:=h;obtain⟨st',he,hs⟩:=(ihs h3).2 h1;cases he;exact⟨λ_=>O62 hs ((ihr h4).1 h2),λk=>by cases k⟩
 |set p e =>
  intro ss h;obtain⟨⟨q,rfl⟩,-,h⟩:=a50 h;simp only[À] at h;exact p70 rfl (Q22 x h.1.1.1 h.1.1.2 h.1.2 h.2)
 |ret e =>
  intro ss h;obtain⟨⟨q,rfl⟩,-,h⟩:=a50 h;exact p70 rfl (Q32 x h)
 |iff c t u iht ihu =>
  intro ss h;obtain⟨⟨q,rfl⟩,-,h⟩:=a50 h;simp only[À] at h;obtain⟨⟨⟨⟨⟨⟨h1,h2⟩,h3⟩,h4⟩,h5⟩,h6⟩,h7⟩:=h;exact p70 rfl (a13 (a90 (c10 h1) (sound G c x.toXI h5)) (l21 h2) ((iht h6).1 h3) ((ihu h7).1 h4))
 |fr p it src b ih =>
  intro ss h;obtain⟨⟨q,rfl⟩,-,h⟩:=a50 h;simp only[À] at h;obtain⟨⟨⟨⟨⟨h1,h2⟩,h3⟩,h4⟩,h5⟩,h6⟩:=h;exact p70 rfl (b23 x h1 h2 h3 h5 ((ih h6).1 h4))
 |whl c b ih =>
  intro ss h;obtain⟨⟨q,rfl⟩,-,h⟩:=a50 h;simp only[À] at h;obtain⟨⟨⟨⟨h1,h2⟩,h3⟩,h4⟩,h5⟩:=h;exact p70 rfl (P32 x (a90 (c10 h1) (sound G c x.toXI h4)) (l21 h2) ((ih h5).1 h3))
 |rais c =>
  intro ss h;obtain⟨⟨⟨e,pos⟩,rfl⟩,-,h⟩:=a50 h;dsimp only at h;obtain⟨⟨⟨n,p1,y,k,p2,p3⟩,rfl⟩,-,h⟩:=a50 h;simp only[À,beq_iff_eq] at h;exact p70 rfl (x_raise x h.1 h.2)
 |exp e =>
  intro ss h;obtain⟨⟨q,rfl⟩,-,h⟩:=a50 h;simp only[À] at h;exact p70 rfl (P02 (a90 (c10 h.1.2) (sound G e x.toXI h.2)) h.1.1)
 |app i e =>
  intro ss h;obtain⟨⟨⟨v0,pos⟩,rfl⟩,-,h⟩:=a50 h;dsimp only at h;obtain⟨⟨⟨n,p1,a,apos,v,cpos⟩,rfl⟩,-,h⟩:=a50 h;simp only[À,beq_iff_eq] at h;obtain⟨⟨⟨⟨⟨⟨h7,h8⟩,h2⟩,h3⟩,h4⟩,h5⟩,h6⟩:=h;subst h7;exact p70 rfl (P22 x h8 h2 h3 (a90 (c10 h4) (sound G e x.toXI h6)) (by rw[h5];exact beq_self_eq_true _))
 |newz i f as =>
  intro ss h;obtain⟨⟨⟨tg,v,pos⟩,rfl⟩,-,h⟩:=a50 h;dsimp only at h;obtain⟨⟨⟨y,p1⟩,rfl⟩,-,h⟩:=a50 h;simp only[À,beq_iff_eq] at h;obtain⟨⟨⟨h1,h2⟩,h3⟩,h4⟩:=h;exact p70 rfl (B52 x h1 h2 (a90 rfl (sound G (.call f as) x.toXI h4)) h3)
 |zset i e =>
  intro ss h;obtain⟨⟨⟨tg,v,pos⟩,rfl⟩,-,h⟩:=a50 h;dsimp only at h;obtain⟨⟨⟨n,p1,c,p2,p3⟩,rfl⟩,-,h⟩:=a50 h;simp only[À,beq_iff_eq] at h;exact p70 rfl (B62 x h.1.1.1 h.1.1.2 (a90 (c10 h.1.2) (sound G e x.toXI h.2)))
 |apop i j e =>
  intro ss h;obtain⟨⟨⟨v0,pos⟩,rfl⟩,-,h⟩:=a50 h;dsimp only at h;obtain⟨⟨⟨n,p1,a,apos,v1,cpos⟩,rfl⟩,-,h⟩:=a50 h;dsimp only at h;obtain⟨⟨⟨m,p2,b,apos',v,cpos'⟩,rfl⟩,-,h⟩:=a50 h;simp only[À,beq_iff_eq] at h;obtain⟨⟨⟨⟨⟨⟨⟨⟨⟨⟨g1,g2⟩,g3⟩,g4⟩,g5⟩,g6⟩,g7⟩,g8⟩,g9⟩,g10⟩,g11⟩:=h;subst g1;subst g2;exact p70 rfl (B72 x g3 g4 g5 g6 g7 (a90 (c10 g8) (sound G e x.toXI g11)) (by rw[g9];exact beq_self_eq_true _) (by rw[g10];exact beq_self_eq_true _))
 |aug o i e =>
  intro ss h;obtain⟨⟨⟨y,p1,op,v,pos⟩,rfl⟩,-,h⟩:=a50 h;simp only[À,beq_iff_eq] at h;exact p70 rfl (P12 x h.1.1.1.1 h.1.1.1.2 h.1.1.2 (a90 (c10 h.1.2) (sound G e x.toXI h.2)))
end
structure GX(P:Program)(w:World)(K:PySem.W.Frag)(mg:Str->Option Value)(base:Heap)(G:Gs)(cn:List Str):Prop where
 gok:∀ f nm ps,G.fns[f]?=some (nm,ps)->∃ fa fd,mg nm=some (.ref fa)/\PySem.W.keepIn K (.ref fa)=true/\Binds K fd ps []/\q31 P w K mg base (CX1 P w) G.lv fa fd ps (spF K G f ps.length)
 num:∀ p∈G.nums,∃ t,mg p.1=some (.int p.2 t)
 blt:∀ n∈i22,mg n=none
 cls:∀ c x,cn[c]?=some x->mg x=some (.ref (G.cls c))/\PySem.W.excIn K (G.cls c) [.type "ValueError",.type "Exception",.type "BaseException",.type "object"] "ValueError.__new__"=true
section
variable {P:ç}{w:ø}{K:Â}{mg:Str->Option Ã}{base:ò}{G:Gs}{cn:List Str}
theorem C22(g:GX P w K mg base G cn){lm:Bool}{N ps:List Str}{qual:Str}{sc:Á2}{f:È}{fd:Ë2}{cd:Ã}{A:ý}{outer:List Ç8}{s:Æ}{H:Hp}{E:XK}(S:u90 N ps sc)(hl:N.all (Q60 sc)=true)
  (hr:U60 G.lv (A.deeper (Ö6 qual sc s.heap.objs.size f cd))) (hc:fd.code=cd):XS lm (V10 (CX1 P w) P w K mg base N qual sc f cd A outer s H E) G E N sc cn where
 gok:=g.gok
 num:=g.num
 blt:=g.blt
 hN:=rfl
 nd:=S.nd
 vis:=λx hx=>by
  have:=ä.mp hl x hx;unfold Q60 at this;rw[Â9,beq_iff_eq,beq_iff_eq] at this;rcases this with h | h
  ·exact .inl h
  ·exact .inr (.inl h)
 glb:=λx h=>h
 cel:=λx h=>h
 calm:=rfl
 room:=hr
 pas:=K42
 sco:=rfl
 fnk:=S.kind
 own:=PassesOwn.leaving
 can:=z21
 fnx:=λ_=>rfl
 cls:=g.cls
theorem b33{x qual:Str}{st:Ç9}{f:È}{fd:Ë2}{N ps:List Str}{k:Nat}{sp:Sp}(F:Fun K x qual st f fd)(S:u90 N ps (d20 st))(len:∀ vs H Q E,sp vs H Q E->vs.length=ps.length)
  (hb:∀ (cdv:Ã),fd.code=cdv->∀ (A:ý) (outer:List Ç8) (s:Æ) (H:Hp) (vs:List V) (Q:VK) (E:XK),U60 k (A.deeper (Ö6 qual (d20 st) s.heap.objs.size f cdv))->sp vs H Q E ->
   ∃ t,PSs (V10 (CX1 P w) P w K mg base N qual (d20 st) f cdv A outer s H E) (q20 st) t/\t { nx:=λ_ H'=>Q .non H',rt:=Q } (L2.start N vs) H):q31 P w K mg base (CX1 P w) (k + 1) f fd ps sp:=by
 obtain⟨oc,od,kV,doc,pm,an,cdv,ct,osl,rfl,lk,hcd⟩:=F.ex;exact J02 lk hcd S len λA outer s H vs Q E hr hsp=>hb cdv rfl A outer s H vs Q E hr hsp
theorem l31:∀ {ss:List S}{vs:List V}{i:Nat}{s:S}{n:Nat},RvA K zA H ss vs->(ss.map some++í n none)[i]?=some (some s)->∃ v,(vs.map some++í n none)[i]?=some (some v)/\RvP K zA H s v
 |[],_,i,s,n,h,e=>by
  cases h;simp only[map_nil,Ì3] at e;rw[Ñ2] at e;split at e <;> cases e
 |a::ss,_,0,s,n,h,e=>by
  cases h with
  |cons h1 h2 =>
   simp only[È1,Ô7,Ý7] at e;cases e;exact⟨_,rfl,h1⟩
 |a::ss,_,i + 1,s,n,h,e=>by
  cases h with
  |cons h1 h2 =>
   obtain⟨v,k1,k2⟩:=l31 (i:=i) (s:=s) (n:=n) h2 (by simpa using e)
   exact⟨v,by simpa using k1,k2⟩
theorem Ä5.len{α β:Type}{R:α->β->Prop}:∀ {l:List α}{m:List β},Ä5 R l m->l.length=m.length
 |[],_,h=>by cases h;rfl
 |_::_,_,h=>by
  cases h with
  |cons h1 h2=>simp[Ä5.len h2]
theorem R81(h:RvA K zA H ss vs)(hn:∀ s∈ss,∀ xs,s≠.fr xs):RW K H zA zA (λ_=>none) H (Q.start N.length ss) (L2.start N vs):=by
 have hl:ss.length=vs.length:=Ä5.len h;refine⟨?_,λi j a e=>(nomatch e),λi a e=>(nomatch e),λi a e=>(nomatch e),λi s e=>?_,Ext.refl,.inl rfl,λi a e=>(nomatch e)⟩
 ·unfold Q.start L2.start;simp[hl]
 ·unfold Q.start at e;obtain⟨v,k1,k2⟩:=l31 h e;refine⟨v,?_,?_⟩
  ·unfold L2.start;rw[← hl];exact k1
  ·cases s with
   |d x=>exact⟨rfl,by rw[q60];exact k2⟩|z=>exact⟨rfl,k2⟩|ks l=>exact⟨rfl,by rw[q60];exact k2⟩
   |fr xs =>
    rcases ó.mp (ô e) with q | q
    ·obtain⟨s',q1,q2⟩:=Ë.mp q;cases q2;exact absurd rfl (hn _ q1 xs)
    ·cases List.eq_of_mem_replicate q
theorem k32(st:f20 zA z H):G52 zA z1=P30 z z1:=by
 have st:=st.zat;cases zA with
 |none =>
  cases z with
  |none=>rfl|some p=>exact st.elim
 |some a =>
  cases z with
  |none=>exact st.elim|some p=>rfl
theorem E01(st:f20 zA z H):z.isNone=zA.isNone:=by
 have st:=st.zat;cases zA with
 |none =>
  cases z with
  |none=>rfl|some p=>exact st.elim
 |some a =>
  cases z with
  |none=>exact st.elim|some p=>rfl
theorem E11(g:GX P w K mg base G cn){lm:Bool}{N ps:List Str}{nm:Str}{st:Ç9}{fa:È}{fd:Ë2}{b:Sm}{f:Nat}{F':FT}(Fn:Fun K nm nm st fa fd)(Sc:u90 N ps (d20 st))(hl:N.all (Q60 (d20 st))=true)
  (ch:mtS lm G.fns G.nums cn (d20 st) N b (q20 st)=true) (hq:isQ b=true)
  (hF:∀ l z,F' false f l z=run G.F (.code ps.length N.length b) l z):q31 P w K mg base (CX1 P w) (G.lv + 1) fa fd ps (spF K { G with F:=F',lv:=G.lv + 1 } f ps.length):=by
 refine b33 Fn Sc (λvs H Q E h=>h.1) λcdv hcd A outer s H vs Qv E hr hsp=>?_;obtain⟨hlen,zA,z,ss,r,rv,st',e,po⟩:=hsp;refine⟨_,(C12 (H0:=H) (zE:=zA) (C22 g Sc hl hr hcd) b ch).1 hq,?_⟩;have e0:(if ss.length=ps.length/\ps.length<=N.length then(match ex G.F z.isNone b (Q.start N.length (ss.map plS)) z with
  |some (.ok (.nx _) z1)=>some (R.ok (S.d .non) (P30 z z1))|some (.ok (.rt s) z1)=>some (R.ok s (P30 z z1))|some (.er c z1)=>some (R.er c (P30 z z1))
  |none=>none) else none)=some r:=by
  have:=hF ss z;exact this.symm.trans e
 rw[E01 st'] at e0;split at e0
 ·have rw0:RW K H zA zA (λ_=>none) H (Q.start N.length (ss.map plS)) (L2.start N vs):=R81 rv.plS λs hs xs=>by
   obtain⟨s',_,rfl⟩:=Ë.mp hs;cases s' <;> exact λh=>nomatch h
  split at e0
  ·rename_i ρ z1 e1;cases e0;refine⟨zA,_,_,z,_,rw0,st',e1,λzA' ow' σ' H' r' st1 _=>?_⟩;refine po .non H' r'.ext ?_ (show Hd K (hz zA H') .non .non from Hd.non);rw[← k32 st'];exact q12 r'.zok st1
  ·rename_i s1 z1 e1;cases e0;refine⟨zA,_,_,z,_,rw0,st',e1,λv H' nz x st1 rv'=>?_⟩;exact po v H' x (by rw[← k32 st'];exact st1) rv'
  ·rename_i c z1 e1;cases e0;refine⟨zA,_,_,z,_,rw0,st',e1,λe H' x st1 hn=>?_⟩;exact po e H' x (by rw[← k32 st'];exact st1) hn
  ·cases e0
 ·cases e0
def lev(G:Gs)(T:List Df)(k:Nat):Gs:={ G with F:=A41 T k,lv:=k }
theorem C32{T:List Df}
  (num:∀ p∈G.nums,∃ t,mg p.1=some (.int p.2 t)) (blt:∀ n∈i22,mg n=none)
  (cls:∀ c x,cn[c]?=some x->mg x=some (.ref (G.cls c))/\Î1 K (G.cls c) [.type "ValueError",.type "Exception",.type "BaseException",.type "object"] "ValueError.__new__"=true)
  (hd:∀ (f:Nat) (nm:Str) (ps:List Str),G.fns[f]?=some (nm,ps)->∃ (fa:È) (fd:Ë2),mg nm=some (.ref fa)/\PySem.W.keepIn K (.ref fa)=true/\Binds K fd ps [] /\
   ((∃ (lm:Bool) (N:List Str) (st:Ç9) (b:Sm),T[f]?=some (Df.code ps.length N.length b)/\Fun K nm nm st fa fd/\u90 N ps (d20 st)/\N.all (Q60 (d20 st))=true/\isQ b=true/\mtS lm G.fns G.nums cn (d20 st) N b (q20 st)=true) ∨
    T[f]?=none)):∀ k,GX P w K mg base (lev G T k) cn:=by
 have zero:∀ k,k < 3->GX P w K mg base (lev G T k) cn:=λk hk=>by
  refine⟨λf nm ps h=>?_,num,blt,cls⟩;obtain⟨fa,fd,h1,h2,h3,_⟩:=hd f nm ps h;refine⟨fa,fd,h1,h2,h3,λvs H Q E q=>q.1,λA outer s H args us vs Q E hr he hb hv hs=>?_⟩;obtain⟨_,zA,z,ss,r,_,_,e,_⟩:=hs
  match k,hk with
  |0,_=>cases e
  |1,_=>cases e
  |2,_=>cases e
 intro k
 induction k using Û8 with
 |ind k ih =>
  match k,ih with
  |0,_=>exact zero 0 (-0)|1,_=>exact zero 1 (-0)|2,_=>exact zero 2 (-0)
  |k + 3,ih =>
   refine⟨λf nm ps h=>?_,num,blt,cls⟩;obtain⟨fa,fd,h1,h2,h3,h4⟩:=hd f nm ps h;refine⟨fa,fd,h1,h2,h3,?_⟩;rcases h4 with ⟨lm,N,st,b,k1,k2,k3,k4,k5,k6⟩ | h4
   ·refine E11 (G:=lev G T (k + 2)) (F':=A41 T (k + 3)) (ih (k + 2) ∅) k2 k3 k4 k6 k5 λl z=>?_
    ·show(match T[f]? with | some d=>run (A41 T (k + 2)) d l | none=>M.no) z=_
     rw[k1];rfl
   ·refine⟨λvs H Q E q=>q.1,λA outer s H args us vs Q E hr he hb hv hs=>?_⟩;obtain⟨_,zA,z,ss,r,_,_,e,_⟩:=hs;have e':(match T[f]? with | some d=>run (A41 T (k + 2)) d ss | none=>M.no) z=some r:=e
    rw[h4] at e';cases e'
end
end Q
namespace L2
open PySem PySem.W PySem.Calls PyProof.Rows
def H80(thr sok:Thread->Bool)(stp:SharedT->Thread->Option (SharedT × Thread)):Nat->SharedT->Thread->Option SharedT
 |0,_,_=>none
 |n + 1,s,t=>match thr t with
  |true=>some s
  |false=>match sok t with
   |false=>none
   |true=>match stp s t with
    |some (s',t')=>H80 thr sok stp n s' t'|none=>none
theorem X90:∀ {n:Nat}{s s':SharedT}{t:Thread},H80 through (stepOk n₀ ann) (stepT (denote tb) p w) n s t=some s'->topRun tb p w n₀ ann n s.abs t=some s'.abs
 |0,_,_,_,h=>by cases h
 |n + 1,s,s',t,h=>by
  unfold H80 at h;unfold topRun;cases ht:through t with
  |true=>rw[ht] at h;cases h;rfl
  |false =>
   rw[ht] at h;cases hok:stepOk n₀ ann t with
   |false=>rw[hok] at h;cases h
   |true =>
    rw[hok] at h;cases hst:stepT (denote tb) p w s t with
    |none=>rw[hst] at h;cases h
    |some r=>obtain⟨s₂,t₂⟩:=r;rw[hst] at h;rw[stepT_spec hst];exact X90 h
def grow:List Obj->Nat->BT->BT
 |[],_,t=>t|o::r,i,t=>grow r (i + 1) (t.ins i o)
def k42(w:ø)(os:OsState):SharedT:=⟨grow (É9 w.params).objs.toList 0 .nil,11,(É9 w.params).life,Array.mk [],boot_drawn,boot_toks,os⟩
theorem E21:∀ (w:ø) (os:OsState),(k42 w os).abs=⟨É9 w.params,Array.mk [],boot_drawn,boot_toks,os⟩:=λw os=>by kernel_rfl
theorem E31:∀ w:ø,((É9 w.params).isNs õ&&(Array.mk []:Array GenState).size == 0,(É9 w.params).objs.size,(É9 w.params).nsMap õ "__annotations__")=(true,11,some (.ref 6)):=λw=>by kernel_rfl
theorem k52{p q:ç}{loose:List Str}{Xt:Æ->Bool}{α:Type}{Yf:Æ->α}{Ya:ø->α}{N:Nat}
  (e:opening p=plainProg p.main.scope.names) (hN:ble 600 N=true) (f:∀ s,fenceModules? p s=some s)
  (run:∀ (w:ø) (os:OsState),(H80 through (stepOk 11 (some (.ref 6))) (stepT (denote treeTable) p w) N (k42 w os) (topStub p)).map (λs =>
   (staticsOk (Í9 p.main.body) (É9 w.params) s.abs.heap&&namesBound p s.abs.heap&&gensDone s.abs&&laidKept (É9 w.params) s.abs.heap,
    openSeen q loose (Í9 p.main.body) Xt true s.abs,Yf s.abs))=some (true,openGood q loose,Ya w)):LeftO p q loose Xt Yf Ya N:=λw=>by
 obtain⟨⟨h,gs,d,k,os⟩,e1,e2⟩:=Ì.mp (boot_open (N:=N) e hN f w);obtain⟨rfl,rfl,rfl,rfl⟩:h=É9 w.params/\gs=Array.mk []/\d=boot_drawn/\k=boot_toks:=by simpa using e2
 obtain⟨z1,z2,z3⟩:_/\_/\_:=by simpa only [Ó2] using E31 w
 obtain⟨s1,r1,r2⟩:=Ì.mp (run w os);obtain⟨l1,l2,l3⟩:_/\_/\_:=by simpa only [Ó2] using r2
 have r:=X90 r1;rw[E21] at r;unfold openEnds;rw[e1];show Í3 _ (topFrom treeTable p w N _)=_;unfold topFrom;dsimp only;rw[z1,z2,z3,r];show Í3 _ (match staticsOk (Í9 p.main.body) (É9 w.params) s1.abs.heap&&namesBound p s1.abs.heap&&gensDone s1.abs&&laidKept (É9 w.params) s1.abs.heap with | true=>_ | false=>_)=_
 rw[l1];exact congrArg Option.some (Prod.ext l2 l3)
def Y00(o:Obj):Bool:=match o with
 |⟨.none,none,.fields vs,sl⟩=>vs.isEmpty&&sl.isEmpty|_=>false
def Q42(h:ò)(a:È):Option Obj:=match h.get? a with
 |some o=>if Y00 o then none else some o|none=>none
def fragOf(h:ò):Frag:=(Ø h.objs.size).filterMap λa=>(Q42 h a).map λo=>(a,o)
theorem y20(g:È->Option Obj)(a:È):∀ l:List È,(l.filterMap λa=>(g a).map λo=>(a,o)).lookup a=if a∈l then g a else none
 |[]=>rfl
 |b::r=>by
  by_cases hb:a=b
  ·subst hb;rw[if_pos Ç];cases hg:g a with
   |none =>
    rw[Â0,hg];show(r.filterMap λa=>(g a).map λo=>(a,o)).lookup a=none;rw[y20 g a r];split
    ·exact hg
    ·rfl
   |some o =>
    rw[Â0,hg];show Ì9 a ((a,o)::_)=some o;rw[List.lookup_cons_self]
  ·have hm:(a∈b::r)↔a∈r:=by rw[Á8];exact⟨λh=>h.resolve_left hb,Or.inr⟩
   have ih:=y20 g a r;have e:(if a∈b::r then g a else none)=if a∈r then g a else none:=by simp only[hm]
   rw[e,← ih];cases hg:g b with
   |none=>rw[Â0,hg];rfl
   |some o =>
    rw[Â0,hg];show Ì9 a ((b,o)::_)=_;have:(a == b)=false:=by simpa using hb
    simp only[Ì9,this]
theorem E41(h:ò):(fragOf h).In h:=λa o e=>by
 unfold fragOf at e;rw[y20] at e;split at e
 ·unfold Q42 at e;cases hg:h.get? a with
  |none=>rw[hg] at e;cases e
  |some u =>
   rw[hg] at e;dsimp only at e;split at e
   ·cases e
   ·exact e
 ·cases e
theorem k62(h:Y00 o=true):o=tabObj #[]:=by
 unfold Y00 at h;split at h
 ·rename_i vs sl;rw[À,Array.isEmpty_iff,Array.isEmpty_iff] at h;obtain⟨rfl,rfl⟩:=h;rfl
 ·cases h
theorem s61(e:h.get? a=some o)(t:Y00 o=true):(fragOf h).lookup a=none:=by
 unfold fragOf;rw[y20];split
 ·unfold Q42;rw[e];exact if_pos t
 ·rfl
def E51(K:Frag)(x:Str):Option (Str × Str × Arguments × FuncBody × Á2 × È × List (Str × È) × Ã × È × Bool):=match nsIn K õ x with
 |some (some (.ref at0))=>(match K.lookup at0 with
  |some ⟨_,_,.func fd,_⟩=>some (fd.name,fd.qualname,fd.params,fd.body,fd.scope,fd.globals,fd.closure,fd.defaults,fd.builtins,codeIn K fd.code x)
  |_=>none)
 |_=>none
def k72(x:Str)(st:Ç9):Option (Str × Str × Arguments × FuncBody × Á2 × È × List (Str × È) × Ã × È × Bool):=some (x,x,N60 st,.stmts (q20 st),d20 st,õ,[],.none,builtinsNs,true)
theorem e91{K:Frag}{x:Str}{st:Ç9}(e:E51 K x=k72 x st):∃ f fd,nsIn K õ x=some (some (.ref f))/\Fun K x x st f fd/\∃ oc od sl,K.lookup f=some ⟨oc,od,.func fd,sl⟩:=by
 unfold E51 k72 at e;split at e
 ·rename_i f hf;split at e
  ·rename_i oc od fd sl hl;obtain⟨nm,qn,pm,bd,sc,gl,cl,df,kd,dc,py,an,cd,ct,bl⟩:=fd;simp only[Ó2,Ó1] at e;obtain⟨rfl,rfl,rfl,rfl,rfl,rfl,rfl,rfl,rfl,hc⟩:=e;exact⟨f,_,hf,⟨⟨oc,od,kd,dc,py,an,cd,ct,sl,rfl,hl,hc⟩,by simp only[keepIn,hl]⟩,oc,od,sl,hl⟩
  ·cases e
 ·cases e
def tab0At(h:ò)(T:È):Bool:=match h.get? T with
 |some o=>Y00 o|none=>false
theorem E61{h:ò}{T:È}(e:tab0At h T=true):h.get? T=some (tabObj #[]):=by
 unfold tab0At at e;split at e
 ·rename_i o ho;rw[ho,k62 e]
 ·cases e
def E71(h:ò)(K:Frag)(x:Str):Option Addr:=match nsIn K õ x with
 |some (some (.ref at0))=>(match K.lookup at0 with
  |some ⟨_,_,.func fn0,_⟩=>(match fn0.code with
   |.ref c=>(match K.lookup c with
    |some ⟨_,_,.fields vs,_⟩=>(match (vs[11]?:Option Ã) with
     |some (.ref T)=>if codeHdIn K c T&&tab0At h T then some T else none
     |_=>none)
    |_=>none)
   |_=>none)
  |_=>none)
 |_=>none
theorem s71{h:ò}{K:Frag}{x:Str}{T:È}(e:E71 h K x=some T):h.get? T=some (tabObj #[])/\∃ f oc od fd sl c,nsIn K õ x=some (some (.ref f))/\K.lookup f=some ⟨oc,od,.func fd,sl⟩/\fd.code=.ref c/\codeHdIn K c T=true:=by
 unfold E71 at e;split at e
 ·rename_i f hf;split at e
  ·rename_i oc od fd sl hl;split at e
   ·rename_i c hc;split at e
    ·split at e
     ·rename_i T' _;split at e
      ·rename_i q;cases e;rw[À] at q;obtain⟨q1,q2⟩:=q;exact⟨E61 q2,f,oc,od,fd,sl,c,hf,hl,hc,q1⟩
      ·cases e
     ·cases e
    ·cases e
   ·cases e
  ·cases e
 ·cases e
def s81(K:Frag)(x:Str):Option Addr:=match nsIn K õ x with
 |some (some (.ref f))=>some f|_=>none
theorem R91{K:Frag}{x:Str}{f:È}(e:s81 K x=some f):nsIn K õ x=some (some (.ref f)):=by
 unfold s81 at e;split at e
 ·cases e;assumption
 ·cases e
def E81(K:Frag)(C:È):Bool:=excIn K C [.type "ValueError",.type "Exception",.type "BaseException",.type "object"] "ValueError.__new__"
def Y61(_:Str):Bool:=true
def f01(K:Frag)(x:Str):Option Int:=match nsIn K õ x with
 |some (some (.int i _))=>some i|_=>none
theorem f11{K:Frag}{x:Str}{i:Int}(e:f01 K x=some i):∃ t,nsIn K õ x=some (some (.int i t)):=by
 unfold f01 at e;split at e
 ·rename_i t h;cases e;exact⟨t,h⟩
 ·cases e
def f21(K:Frag)(x:Str):Bool:=match nsIn K õ x with
 |some none=>true|_=>false
theorem f31{K:Frag}{x:Str}(e:f21 K x=true):nsIn K õ x=some none:=by
 unfold f21 at e;split at e
 ·assumption
 ·cases e
structure q00 where
 ds:List (Str × Stmt)
 is:List (Str × Int)
 ns:List Str
 ms:List Str
 cs:List Str
def q00.obs(q:q00)(s:Æ) :=
 let K:=fragOf s.heap
 (q.ds.map λd=>E51 K d.1,q.is.map λd=>f01 K d.1,q.ns.map (f21 K),q.ms.map λx=>(E71 s.heap K x).isSome,q.cs.map λx=>(s81 K x).map (E81 K),
  (specialIn K (.builtin "object.__class__") "__get__",takesIn K (.builtin "object.__class__")))
def q00.due(q:q00)(_:ø) :=
 (q.ds.map λd=>k72 d.1 d.2,q.is.map λd=>some d.2,q.ns.map λ_=>true,q.ms.map λ_=>true,q.cs.map λx=>some (Y61 x),
  (some (some (Ã.builtin "getset_descriptor.__get__")),some true))
structure Facts(q:q00)(K:Frag)(h:Heap):Prop where
 fn:∀ d∈q.ds,∃ f fd,nsIn K mainGlobals d.1=some (some (.ref f))/\Fun K d.1 d.1 d.2 f fd/\∃ oc od sl,K.lookup f=some ⟨oc,od,.func fd,sl⟩
 it:∀ d∈q.is,∃ t,nsIn K mainGlobals d.1=some (some (.int d.2 t))
 no:∀ x∈q.ns,nsIn K mainGlobals x=some none
 mt:∀ x∈q.ms,∃ T,h.get? T=some (tabObj #[])/\K.lookup T=none/\∃ f oc od fd sl c,nsIn K mainGlobals x=some (some (.ref f))/\K.lookup f=some ⟨oc,od,.func fd,sl⟩/\fd.code=.ref c/\codeHdIn K c T=true
 cl:∀ x∈q.cs,∃ C,nsIn K mainGlobals x=some (some (.ref C))/\E81 K C=Y61 x
 sp:specialIn K (.builtin "object.__class__") "__get__"=some (some (Value.builtin "getset_descriptor.__get__"))
 tk:takesIn K (.builtin "object.__class__")=some true
theorem Y10{α β:Type}{f g:α->β}:∀ {l:List α},l.map f=l.map g->∀ a∈l,f a=g a:=λ{l} h a ha=>List.map_inj_left.mp h a ha
theorem q00.facts(q:q00)(w:ø)(s:Æ)(e:q.obs s=q.due w):Facts q (fragOf s.heap) s.heap:=by
 unfold q00.obs q00.due at e;simp only[Ó2] at e;obtain⟨e1,e2,e3,e4,e5,e6,e7⟩:=e;refine⟨λd hd=>e91 (Y10 e1 d hd),λd hd=>f11 (Y10 e2 d hd),λx hx=>f31 (Y10 e3 x hx),λx hx=>?_,λx hx=>?_,e6,e7⟩
 ·obtain⟨T,hT⟩:=Ü4.mp (Y10 e4 x hx);obtain⟨h1,h2⟩:=s71 hT;exact⟨T,h1,s61 h1 rfl,h2⟩
 ·obtain⟨C,h1,h2⟩:=Ì.mp (Y10 e5 x hx);exact⟨C,R91 h1,h2⟩
def q00.hook(q:q00):Hook where
 α:=_
 obs:=q.obs
 val:=q.due
 says:=λ_ h=>∃ K:Frag,K.In h/\Facts q K h
 of:=λw s e=>⟨_,E41 _,q.facts w s e⟩
 keeps:=λ_ h h' ⟨K,X,F⟩ k=>⟨K,X.keeps k,⟨F.fn,F.it,F.no,λx hx=>let ⟨T,a,b⟩:=F.mt x hx;⟨T,k _ _ a,b⟩,F.cl,F.sp,F.tk⟩⟩
end L2
namespace Q
open PySem L2 PySem.Spec PyProof.Rows
structure Row where
 nm:Str
 ps:List Str
 st:Stmt
 N:List Str
 b:Sm
 lm:Bool
def E91(N ps:List Str)(sc:Á2):Bool:=sc.kind == .function&&!sc.isCoroutine&&!sc.isGenerator&&decide N.Nodup&&N.take ps.length == ps&&ps.all (λx=>sc.names.lookup x == some .local || sc.names.lookup x == some .cell)&&sc.names.all λy=>y.2 != .free
theorem l41(h:E91 N ps sc=true):u90 N ps sc:=by
 unfold E91 at h;simp only[À,á,beq_iff_eq,Á1,decide_eq_true_eq,Â9] at h;obtain⟨⟨⟨⟨⟨⟨h1,h2⟩,h3⟩,h4⟩,h5⟩,h6⟩,h7⟩:=h;exact⟨h1,h2,h3,h4,h5,h6,λy hy=>by simpa using h7 y hy⟩
def Y71(r:Row):Prop:=∀ (kV doc pm:Ã) (an:Option È) (cdv ct:Ã) (us:List Ã),us.length=r.ps.length->bindArgs (fnOf r.nm r.nm (N60 r.st) (q20 r.st) (d20 r.st) .none kV doc pm an cdv ct) ⟨us,[]⟩=pure (r.ps.zip us)
def q70:List Row->Prop
 |[]=>True|r::l=>Y71 r/\q70 l
theorem q70.at:∀ {l:List Row}{r:Row},q70 l->r∈l->Y71 r
 |_::_,_,h,.head _=>h.1|_::_,_,h,.tail _ m=>q70.at h.2 m
theorem us1(h:us.length=1):∃ a,us=[a]:=List.length_eq_one_iff.mp h
theorem us2(h:us.length=2):∃ a b,us=[a,b]:=by
 match us,h with
 |[a,b],_=>exact⟨a,b,rfl⟩
theorem us3(h:us.length=3):∃ a b c,us=[a,b,c]:=by
 match us,h with
 |[a,b,c],_=>exact⟨a,b,c,rfl⟩
theorem us4(h:us.length=4):∃ a b c d,us=[a,b,c,d]:=by
 match us,h with
 |[a,b,c,d],_=>exact⟨a,b,c,d,rfl⟩
def q22(fns:List (Str × List Str))(nums:List (Str × Int))(cn:List Str)(r:Row):Bool:=mtS r.lm fns nums cn (d20 r.st) r.N r.b (q20 r.st)&&isQ r.b&&r.N.all (Q60 (d20 r.st))&&E91 r.N r.ps (d20 r.st)
def K40(rows:List Row):List (Str × List Str):=rows.map λr=>(r.nm,r.ps)
def tabOf(rows:List Row):List Df:=rows.map λr=>Df.code r.ps.length r.N.length r.b
def Y20(rows:List Row)(nums:List (Str × Int))(cn:List Str):q00:=⟨rows.map (λr=>(r.nm,r.st)),nums,i22,[],cn⟩
def clsAt(K:Â)(cn:List Str)(c:Nat):Addr:=(s81 K (cn.getD c "")).getD 0
theorem C42{K:Â}{C:È}{cn:List Str}{c:Nat}{x:Str}(hc:cn[c]?=some x)(h:PySem.W.nsIn K õ x=some (some (.ref C))):clsAt K cn c=C:=by
 unfold clsAt;rw[Ó,hc];show(s81 K x).getD 0=C;unfold s81;rw[h];rfl
section
variable {P:ç}{w:ø}{K:Â}{mg:Str->Option Ã}{base:ò}
theorem ok0(F:q31 P w K mg base (CX1 P w) k f fd ps sp):q31 P w K mg base CX0 k f fd ps (λvs H Q _=>sp vs H Q λ_ _ _=>False) :=
 ⟨λvs H Q E h=>F.len _ _ _ _ h,λA outer s H args us vs Q E hr he hb hv hs=>Ó7 (F.run A outer s H args us vs Q _ hr he hb hv hs) λr s' h=>by
  cases r with
  |error e =>
   obtain⟨_,_,_,_,_,_,_,_,_,_,_,_,_,hE⟩:=h;exact hE.elim
  |ok fl=>cases fl <;> exact h⟩
theorem b43:TriplesOk (#[]:Array Ã).toList:=by first | trivial | (unfold TriplesOk;trivial)
theorem t70.noT[TB:Tb](h:t70 K H a xs):t70 K (hz none H) a xs:=by
 rcases h with (h | ⟨o,h⟩) | h
 ·exact .inl (.inl (e00 h (λq=>nomatch q)))
 ·exact .inl (.inr ⟨o,e00 h (λq=>nomatch q)⟩)
 ·exact .inr h
theorem C52[TB:Tb]{G:Gs}{T:List Df}{k f:Nat}{H:Hp}{a:È}{ns:List Int}(pure:a70 T k f [.d (.lst (ns.map D.int))] none=some (.ok (.d (.bl true)) none))(hH:∀ p∈TB.tb,H p.1=some (.tbl #[]))(hS:t70 K H a (ns.map V.int)) :
  spF K (lev G T k) f 1 [.ref a] H (λv _=>v=.bl true) λ_ _ _=>False:=by
 refine⟨rfl,none,none,[.d (.lst (ns.map D.int))],_,.cons ?_ .nil,⟨trivial,λp hp=>⟨#[],hH p hp,b43,λpos c e=>nomatch e⟩⟩,pure,λv H' x st rv=>Hd.bl_ (show Hd K (hz none H') (.bl true) v from rv)⟩;show Hd K (hz none H) (.lst (ns.map D.int)) (.ref a);unfold Hd;exact⟨a,ns.map V.int,rfl,hS.noT,HdA.ints ns⟩
end
theorem C62{rows:List Row}{f:Nat}{nm:Str}{ps:List Str}(h:(K40 rows)[f]?=some (nm,ps)):∃ r∈rows,rows[f]?=some r/\r.nm=nm/\r.ps=ps:=by
 unfold K40 at h;rw[ã] at h;obtain⟨r,h1,h2⟩:=Ì.mp h;cases h2;exact⟨r,ô h1,h1,rfl,rfl⟩
section
variable [TB:Tb] {P:ç}{w:ø}{K:Â}{h:ò}{mg:Str->Option Ã}{base:ò}{rows:List Row}{nums:List (Str × Int)}{cn:List Str}
theorem k82(Q:Facts (Y20 rows nums cn) K h):∀ c x,cn[c]?=some x->PySem.W.nsIn K õ x=some (some (.ref (clsAt K cn c)))/\Î1 K (clsAt K cn c) [.type "ValueError",.type "Exception",.type "BaseException",.type "object"] "ValueError.__new__"=true:=λc x hc=>by
 obtain⟨C,h1,h2⟩:=Q.cl x (ô hc);rw[C42 hc h1];exact⟨h1,h2⟩
theorem k92(X:K.In h)(Gn:h.Ns õ mg)(Q:Facts (Y20 rows nums cn) K h)(ok:rows.all (q22 (K40 rows) nums cn)=true)(bd:q70 rows)(F0:FT):∀ k,GX P w K mg base (lev ⟨K40 rows,nums,F0,clsAt K cn,0⟩ (tabOf rows) k) cn:=by
 refine C32 (λp hp=>?_) (λn hn=>?_) (λc x hc=>?_) λf nm ps hf=>?_
 ·obtain⟨t,e⟩:=Q.it p hp;exact⟨t,mg_of X Gn e⟩
 ·exact PySem.W.mg_none_of X Gn (Q.no n hn)
 ·obtain⟨h1,h3⟩:=k82 Q c x hc;exact⟨mg_of X Gn h1,h3⟩
 ·obtain⟨r,hr,hr2,rfl,rfl⟩:=C62 hf;obtain⟨fa,fd,a1,F1,oc,od,sl,lk⟩:=Q.fn (r.nm,r.st) (Ë.mpr ⟨r,hr,rfl⟩);have rb:=ä.mp ok r hr;unfold q22 at rb;simp only[À] at rb;obtain⟨⟨⟨b1,b2⟩,b3⟩,b4⟩:=rb;refine⟨fa,fd,mg_of X Gn a1,F1.kp,F1.binds (bd.at hr),.inl ⟨r.lm,r.N,r.st,r.b,?_,F1,l41 b4,b3,b2,b1⟩⟩;unfold tabOf;rw[ã,hr2];rfl
theorem C72(X:K.In h)(Gn:h.Ns õ mg)(Q:Facts (Y20 rows nums cn) K h)(ok:rows.all (q22 (K40 rows) nums cn)=true)(bd:q70 rows)(F0:FT)(k:Nat){i:Nat}{r:Row}(hi:rows[i]?=some r){fa:È}{fd:Ë2}(F1:Fun K r.nm r.nm r.st fa fd):q31 P w K mg base (CX1 P w) (k + 3) fa fd r.ps (spF K (lev ⟨K40 rows,nums,F0,clsAt K cn,0⟩ (tabOf rows) (k + 3)) i r.ps.length):=by
 have hr:=ô hi;have rb:=ä.mp ok r hr;unfold q22 at rb;simp only[À] at rb;obtain⟨⟨⟨b1,b2⟩,b3⟩,b4⟩:=rb;refine E11 (G:=lev ⟨K40 rows,nums,F0,clsAt K cn,0⟩ (tabOf rows) (k + 2)) (F':=A41 (tabOf rows) (k + 3)) (k92 X Gn Q ok bd F0 (k + 2)) F1 (l41 b4) b3 b1 b2 λl z=>?_;show(match (tabOf rows)[i]? with | some d=>run (A41 (tabOf rows) (k + 2)) d l | none=>M.no) z=_
 unfold tabOf;rw[ã,hi];rfl
end
theorem F01{P:ç}{w:ø}{K:Â}{mg mb:Str->Option Ã}{k:Nat}{fa a:È}{fd:Ë2}{x:Str}{sp:Sp}{s₁:Æ}{vs:List Ã}{ns:List Int}{ts:List È}
  (KX:K.In s₁.heap) (hns:s₁.heap.Ns õ mg) (hb:s₁.heap.Ns builtinsNs mb) (hbb:∀ x:Str,x≠"__name__"->mb x=î x) (hlim:s₁.heap.NoLimit) (hg:s₁.gens=#[])
  (ha:s₁.heap.get? a=some { cls:=.type "list",data:=.seq vs.toArray }) (hi:Ë3 vs ns) (hl:ns.length<=sizeLine) (hr:U60 k Û4)
  (hT:∀ Pt∈ts,s₁.heap.get? Pt=some (Ú1 #[])/\K.lookup Pt=none/\∃ c,Ö8 K c Pt=true) (bmn:BMain mg s₁.heap)
  (F:∀ base:ò,K.In base->base.Ns õ mg->BMain mg base->q31 P w K mg base CX0 k fa fd [x] sp) (hbind:∀ (s:Æ) (u:Ã),BindsTo s fd ⟨[u],[]⟩ [(x,u)])
  (hsp:∀ H:Hp,(∀ Pt∈ts,H Pt=some (.tbl #[]))->t70 K H a (ns.map V.int)->sp [.ref a] H (λv _=>v=.bl true) λ_ _ _=>False) :
  Ó8 (Û P w) Û4 (.call (.ref fa) ⟨[.ref a],[]⟩) (λr s'=>r=.ok (.ret (.bool true))/\OldK s₁.heap s'.heap/\s'.os=s₁.os/\Ô1 s'.gens) s₁:=by
 have rv:=V70 hi;have lenV:=hi.length;have naT:a ∉ ts:=λh=>by have:=(hT a h).1;rw[ha] at this;cases this
 have core:∀ H:Hp,(∀ Pt∈ts,H Pt=some (.tbl #[]))->(∀ b,H b=none∨b∈ts∨(b=a/\∃ xs,H b=some (.frz { cls:=.type "list",data:=.seq vs.toArray } (.lst xs))))->t70 K H a (ns.map V.int)->HOk P w H s₁.heap->(H a≠none->K.lookup a=none) ->
   Ó8 (Û P w) Û4 (.call (.ref fa) ⟨[.ref a],[]⟩) (λr s'=>r=.ok (.ret (.bool true))/\OldK s₁.heap s'.heap/\s'.os=s₁.os/\Ô1 s'.gens) s₁:=by
  intro H hH hO hS hok hK;have plainN:∀ {b:È}{o:Obj},s₁.heap.get? b=some o->(∀ xs n,o.data≠.seq xs n)->(∀ xs,o.data≠.fields xs)->H b=none:=λ{b o} e d1 d2=>by
   rcases hO b with z | z | ⟨z,_⟩
   ·exact z
   ·have:=(hT b z).1;rw[e] at this;cases this;exact absurd rfl (d2 _)
   ·rw[z,ha] at e;cases e;exact absurd rfl (d1 _ _)
  have nsK:∀ {b:È}{m:Str->Option Ã},s₁.heap.Ns b m->(L11 s₁.heap H).Ns b m:=λ{b m} ⟨o,es,ep,e,d,r⟩=>⟨o,es,ep,N00 e (plainN e (λxs n z=>by rw[d] at z;cases z) λxs z=>by rw[d] at z;cases z),d,r⟩
  have hKb:K.In (L11 s₁.heap H):=λb o e=>N00 (KX b o e) (by
   rcases hO b with z | z | ⟨z,xs,z2⟩
   ·exact z
   ·rw[(hT b z).2.1] at e;cases e
   ·rw[z] at e z2;rw[hK (by rw[z2];exact λy=>nomatch y)] at e;cases e)
  have hM:Mod K mg (L11 s₁.heap H):=⟨hKb,nsK hns,⟨mb,nsK hb,hbb⟩,let ⟨mc,h1,h2⟩:=hlim;⟨mc,nsK h1,h2⟩⟩;have hBM:BMain mg (L11 s₁.heap H):=by
   obtain⟨bm,ob,b1,b2,b3,b4,b5,b6⟩:=bmn;exact⟨bm,ob,b1,b2,N00 b3 (plainN b3 (λxs n z=>by rw[b6] at z;cases z) λxs z=>by rw[b6] at z;cases z),b4,b5,b6⟩
  have e0:F82 P w K mg (L11 s₁.heap H) Û4 [] s₁ H:=⟨rfl,hM,λb o e=>b22 e,Ò1 (u71 _ _),trivial,λb hb=>absurd (show b∈([]:List È) from hb) (by simp),hok,.of_eq hg⟩
  refine Ó7 ((F _ hKb (nsK hns) hBM).run Û4 [] s₁ H ⟨[.ref a],[]⟩ [.ref a] [.ref a] _ _ hr e0 (hbind s₁ (.ref a)) (.cons rfl .nil) (hsp H hH hS)) λr s' h=>?_;cases r with
  |error e=>exact Æ5 h
  |ok fl =>
   cases fl with
   |next=>exact Æ5 h
   |brk=>exact Æ5 h|cont=>exact Æ5 h
   |ret u =>
    obtain⟨v,H',os,bare,un,hok',r',q⟩:=h;have q':v=.bl true:=q;subst q';obtain rfl:u=È8 true:=r';refine⟨rfl,⟨λb o e=>?_,λb o e=>un.there b o e (by simp)⟩,os,bare⟩
    rcases hO b with z | z | ⟨z,xs,z2⟩
    ·exact .inl (un.keep b o e z (by intro y;exact absurd (show b∈([]:List È) from y) (by simp)) (by simp))
    ·obtain⟨t1,_,c,t2⟩:=hT b z;rw[e] at t1;cases t1;obtain⟨more,m1⟩:=un.tbls b _ (hH b z);have m2:s'.heap.get? b=some { cls:=.none,data:=.fields (#[]++more) }:=hok' b _ m1;have CH:=PySem.W.codeHd_of_K KX t2;exact .inr (.inl ⟨(CH.tab e).isCodeTable,rfl,#[],more,rfl,m2⟩)
    ·have z3:=un.frzs b _ _ z2;obtain⟨e1,_⟩:=hok b _ z2;obtain⟨e2,_⟩:=hok' b _ z3;rw[e] at e1;cases e1;exact .inl e2
 cases hk:K.lookup a with
 |some o =>
  have e:=KX a o hk;rw[ha] at e;cases e;refine core (λb=>if b∈ts then some (.tbl #[]) else none) (λPt h=>if_pos h) (λb=>?_) (.inr ⟨vs.toArray,_,hk,by rw[Ö,lenV];exact hl,by simpa using rv⟩) (λb u z=>?_) λz=>absurd (if_neg naT) z
  ·by_cases h:b∈ts
   ·exact .inr (.inl h)
   ·exact .inl (if_neg h)
  ·by_cases h:b∈ts
   ·have z':=(if_pos h).symm.trans z;cases z';exact(hT b h).1
   ·have z':=(if_neg h).symm.trans z;cases z'
 |none =>
  refine core (λb=>if b=a then some (.frz { cls:=.type "list",data:=.seq vs.toArray } (.lst (ns.map V.int))) else if b∈ts then some (.tbl #[]) else none) (λPt h=>?_) (λb=>?_) (.inl (.inr ⟨{ cls:=.type "list",data:=.seq vs.toArray },if_pos rfl⟩)) (λb u z=>?_) λ_=>hk
  ·rw[if_neg (λy=>naT (by rw[← y];exact h)),if_pos h]
  ·by_cases hb:b=a
   ·exact .inr (.inr ⟨hb,_,if_pos hb⟩)
   ·by_cases h:b∈ts
    ·exact .inr (.inl h)
    ·exact .inl (by rw[if_neg hb,if_neg h])
  ·by_cases hb:b=a
   ·have z':=(if_pos hb).symm.trans z;cases z';subst hb;exact⟨ha,by rw[Å];exact hl,vs,_,rv,ha⟩
   ·replace z:=(if_neg hb).symm.trans z
    by_cases h:b∈ts
    ·have z':=(if_pos h).symm.trans z;cases z';exact(hT b h).1
    ·have z':=(if_neg h).symm.trans z;cases z'
theorem S01{l:PySem.W.OpenLaw}{n k:Nat}{q:ç}{loose:List Str}{XP:(Str->Option Ã)->ò->Prop}{d:DefRec}{A:q00}{x:Str}
  (hn:l.most=some n) (hn2:n<=sizeLine) (hdf:d.params.defaults=[]) (hr:U60 k Û4)
  (F:∀ (w:ø) (mg:Str->Option Ã) (fa:È) (h:ò) (K:Â),Facts A K h->K.In h->h.Ns õ mg->mg d.name=some (.ref fa) ->
   ∃ (fd:Ë2) (ts:List È) (sp:Sp),(∀ Pt∈ts,h.get? Pt=some (Ú1 #[])/\K.lookup Pt=none/\∃ c,Ö8 K c Pt=true)/\(∀ (s:Æ) (u:Ã),BindsTo s fd ⟨[u],[]⟩ [(x,u)]) /\
    (∀ base:ò,K.In base->base.Ns õ mg->BMain mg base->q31 l.prog w K mg base CX0 k fa fd [x] sp) /\
    ∀ (H:Hp) (a:È) (ns:List Int),ns.length<=n->(∀ Pt∈ts,H Pt=some (.tbl #[]))->t70 K H a (ns.map V.int)->sp [.ref a] H (λv _=>v=.bl true) λ_ _ _=>False) :
  PySem.W.WalkO q loose XP A.hook.says l.row.toRowW d [] (λf vs=>PySem.call f vs):=by
 refine Att.c11 hn hdf λw s₀ s₁ mg mb fa o pm cd doc a vs ns G Y ho hd hcd hmg hobj hints hlen hg=>?_;obtain⟨K,KX,FX⟩:=Y;obtain⟨fd,ts,sp,hT,hb,hF,hsp⟩:=F w mg fa _ K FX KX G.T.g hmg;exact F01 KX G.T.g G.T.b G.T.builtins G.T.nolimit hg hobj hints (Ù hlen hn2) hr hT G.T.bmain hF hb λH hH hS=>hsp H a ns hlen hH hS
theorem l02{l:PySem.W.OpenLaw}{rows:List Row}{nums:List (Str × Int)}{cn:List Str}{k iL n:Nat}{rL:Row}(ok:rows.all (q22 (K40 rows) nums cn)=true)(bd:q70 rows)(hL:rows[iL]?=some rL)(hn:rL.nm="law")(hp:rL.ps=[("_law_script":Str)])
  (pure:∀ ns:List Int,ns.length<=n->a70 (tabOf rows) (k + 3) iL [.d (.lst (ns.map D.int))] none=some (.ok (.d (.bl true)) none)) (w:ø) (mg:Str->Option Ã) (fa:È) (h:ò) (K:Â) (Q:Facts (Y20 rows nums cn) K h) (X:K.In h) (Gn:h.Ns õ mg) (hfa:mg "law"=some (.ref fa)) :
   ∃ (fd:Ë2) (ts:List È) (sp:Sp),(∀ Pt∈ts,h.get? Pt=some (Ú1 #[])/\K.lookup Pt=none/\∃ c,Ö8 K c Pt=true)/\(∀ (s:Æ) (u:Ã),BindsTo s fd ⟨[u],[]⟩ [("_law_script",u)]) /\
    (∀ base:ò,K.In base->base.Ns õ mg->BMain mg base->q31 l.prog w K mg base CX0 (k + 3) fa fd ["_law_script"] sp) /\
    ∀ (H:Hp) (a:È) (ns:List Int),ns.length<=n->(∀ Pt∈ts,H Pt=some (.tbl #[]))->t70 K H a (ns.map V.int)->sp [.ref a] H (λv _=>v=.bl true) λ_ _ _=>False:=by
 have hrL:rL∈rows:=ô hL;obtain⟨fL,fdL,aL,FL,ocL,odL,slL,lkL⟩:=Q.fn (rL.nm,rL.st) (Ë.mpr ⟨rL,hrL,rfl⟩);have bL:=bd.at hrL;have e:=hfa.symm.trans (mg_of X Gn (by rw[← hn];exact aL))
 cases e;have bT:∀ (s:Æ) (u:Ã),BindsTo s fdL ⟨[u],[]⟩ [("_law_script",u)]:=by
  obtain⟨_,_,kV,doc,pm,an,cdv,ct,_,e,_,_⟩:=FL.ex;subst e;intro s u;have:=bL kV doc pm an cdv ct [u] (by rw[hp];rfl)
  rw[hp] at this;exact .of_eq this
 let TB:Tb:=⟨[]⟩
 refine⟨fdL,[],λvs H Q _=>spF K (lev ⟨K40 rows,nums,λ_ _ _=>M.no,clsAt K cn,0⟩ (tabOf rows) (k + 3)) iL 1 vs H Q λ_ _ _=>False,λp hp=>(nomatch hp),bT,λbase kb nb bm=>?_,λH a ns hl hH hS=>C52 (pure ns hl) (λp hp=>nomatch hp) hS⟩;have F:=ok0 (C72 (P:=l.prog) (w:=w) (base:=base) X Gn Q ok bd (λ_ _ _=>M.no) k hL FL);rw[hp] at F;exact F
end Q
namespace Q
open L2 (D)
open PySem (Paired)
def l51:Ex->Bool
 |.var _=>false|_=>true
def b53:Ex->Env->Option (Option S)
 |.var i,ρ=>ρ[i]?|_,_=>none
def T12:Option (Option S)->Option S
 |some (some s)=>noS s|_=>none
def blS:S->Option Bool
 |.d (.bl b)=>some b|_=>none
abbrev Du{α:Type}(_:α->Z->Prop)(_:Nat->Z->Prop):Type:=Unit
abbrev Dv{α:Type}(_:α->Prop):Type:=Unit
structure W{α:Type}(m:M α)(z:Z)(Q:α->Z->Prop)(E:Nat->Z->Prop)(du:Du Q E:=()):Prop where
 ex:∃ r,m z=some r/\match r with
  |.ok a z1=>Q a z1|.er c z1=>E c z1
theorem W_e{α:Type}{m:M α}{Q:α->Z->Prop}:W m z Q E↔∃ r,m z=some r/\match r with
  |.ok a z1=>Q a z1|.er c z1=>E c z1:=⟨W.ex,W.mk⟩
abbrev NE:Nat->Z->Prop:=λ_ _=>False
def Get{α:Type}(o:Option α)(P:α->Prop)(_:Dv P:=()):Prop:=match o with
 |some a=>P a|none=>False
theorem C82{α:Type}{a:α}{P:α->Prop}:Get (some a) P↔P a:=Ù0
theorem n50{α:Type}{o:Option α}{P:α->Prop}(h:Get o P):∃ a,o=some a/\P a:=by
 cases o with
 |none=>exact h.elim|some a=>exact⟨a,rfl,h⟩
theorem a00{α:Type}{o:Option α}{a:α}{P:α->Prop}(h:o=some a)(hp:P a):Get o P:=by rw[h];exact hp
section
variable {α β:Type}{m:M α}{z z1:Z}{Q Q':α->Z->Prop}{E E':Nat->Z->Prop}
theorem W.mono(h:W m z Q E)(hq:∀ a z,Q a z->Q' a z)(he:∀ c z,E c z->E' c z):W m z Q' E':=by
 obtain⟨r,e,h⟩:=h;refine⟨r,e,?_⟩;cases r with
 |ok a z1=>exact hq _ _ h|er c z1=>exact he _ _ h
theorem W.imp(h:W m z Q NE)(hq:∀ a z,Q a z->Q' a z):W m z Q' E':=h.mono hq λ_ _ h=>h.elim
theorem W.ok{a:α}(h:W m z (λb z2=>b=a/\z2=z1) NE):m z=some (.ok a z1):=by
 obtain⟨r,e,h⟩:=h;cases r with
 |ok b z2=>obtain⟨rfl,rfl⟩:=h;exact e
 |er c z2=>exact h.elim
theorem T22{a:α}(h:m z=some (.ok a z1)):W m z Q E↔Q a z1:=by
 rw[W_e];constructor
 ·rintro ⟨r,e,q⟩;rw[h] at e;cases e;exact q
 ·exact λq=>⟨_,h,q⟩
theorem b63{c:Nat}(h:m z=some (.er c z1)):W m z Q E↔E c z1:=by
 rw[W_e];constructor
 ·rintro ⟨r,e,q⟩;rw[h] at e;cases e;exact q
 ·exact λq=>⟨_,h,q⟩
theorem E20{a:α}:W (M.ret a) z Q E↔Q a z:=T22 rfl
theorem C92:W (M.no:M α) z Q E↔False:=⟨λ⟨_,e,_⟩=>(by cases e),Æ5⟩
theorem q80{f:α->M β}{Q:β->Z->Prop}:W (M.bind m f) z Q E↔W m z (λa z1=>W (f a) z1 Q E) E:=by
 constructor
 ·rintro ⟨r,e,q⟩;unfold M.bind at e;split at e
  ·rename_i a z1 e1;exact⟨_,e1,r,e,q⟩
  ·rename_i c z1 e1;cases e;exact⟨_,e1,q⟩
  ·cases e
 ·rintro ⟨r,e,q⟩;cases r with
  |ok a z1 =>
   obtain⟨r,e2,q⟩:=q;refine⟨r,?_,q⟩;unfold M.bind;rw[e];exact e2
  |er c z1 =>
   refine⟨.er c z1,?_,q⟩;unfold M.bind;rw[e]
theorem Y81:W (M.calm m) z Q E↔W m z Q NE:=by
 rw[W_e,W_e];unfold M.calm;constructor
 ·rintro ⟨r,e,q⟩;split at e
  ·rename_i a z1 e1;cases e;exact⟨_,e1,q⟩
  ·cases e
 ·rintro ⟨r,e,q⟩;cases r with
  |ok a z1=>exact⟨.ok a z1,by rw[e],q⟩|er c z1=>exact q.elim
theorem l12(h:∀ a z,Q a z↔Q' a z):W m z Q E↔W m z Q' E:=⟨λx=>x.mono (λa z=>(h a z).mp) λ_ _ h=>h,λx=>x.mono (λa z=>(h a z).mpr) λ_ _ h=>h⟩
theorem wR{a:α}:Q a z↔W (M.ret a) z Q E:=E20.symm
theorem wN:False↔W (M.no:M α) z Q E:=C92.symm
theorem wT{c:Prop}[Decidable c]{a b:M α}{A B:Prop}(h1:A↔W a z Q E)(h2:B↔W b z Q E):(if c then A else B)↔W (if c then a else b) z Q E:=by
 split <;> assumption
theorem wG{o:Option β}{f:β->M α}{K:β->Prop}(h:∀ a,K a↔W (f a) z Q E):Get o K↔W (M.bind (M.of o) f) z Q E:=by
 cases o with
 |none=>exact C92.symm|some a=>exact h a
theorem wB{m:M β}{f:β->M α}{V:Prop}{K:β->Z->Prop}(h1:V↔W m z K E)(h2:∀ a z1,K a z1↔W (f a) z1 Q E):V↔W (M.bind m f) z Q E:=h1.trans ((l12 h2).trans q80.symm)
end
def Wm{α:Type}(o:Option (R α))(Q:α->Z->Prop)(E:Nat->Z->Prop):Prop:=match o with
 |some (.ok a z1)=>Q a z1|some (.er c z1)=>E c z1|none=>False
theorem wM{α:Type}{m:M α}{z:Z}{Q:α->Z->Prop}{E:Nat->Z->Prop}:Wm (m z) Q E↔W m z Q E:=by
 rw[W_e];unfold Wm;cases h:m z with
 |none=>exact⟨Æ5,λ⟨_,e,_⟩=>by cases e⟩
 |some r =>
  refine⟨λq=>⟨r,rfl,?_⟩,λ⟨_,e,q⟩=>?_⟩
  ·cases r <;> exact q
  ·cases e;cases r <;> exact q
def Vr(o:Option (Option S))(z:Z)(Q:List S->Z->Prop)(_:Du Q NE:=()):Prop:=match o with
 |some (some s)=>Q [plS s] z|_=>False
def WV:FT->Ex->Env->Z->(List S->Z->Prop)->(Nat->Z->Prop)->Prop
 |F,.nil=>λρ z Q E=>Q [] z|F,.cons a r=>λρ z Q E=>WV F a ρ z (λx z1=>Get (one x) λs=>WV F r ρ z1 (λy z2=>Q (s::y) z2) E) E|F,.con x=>λρ z Q E=>Q [.d x] z|F,.gint g i=>λρ z Q E=>Q [.d (.int i)] z|F,.tup as=>λρ z Q E=>WV F as ρ z (λl z1=>Get (plA l) λds=>if ds.length<=most then Q [.d (.tup ds)] z1 else False) E|F,.lst as=>λρ z Q E=>WV F as ρ z (λl z1=>Get (plA l) λds=>if ds.length<=most then Q [.fr ds] z1 else False) E|F,.bin o a b=>λρ z Q E=>WV F a ρ z (λx z1=>Get (pl x) λdx=>WV F b ρ z1 (λy z2=>Get (pl y) λdy=>Get (C00 o dx dy) λs=>Q [s] z2) E) E|F,.cmp o a b=>λρ z Q E=>WV F a ρ z (λx z1=>Get (pl x) λdx=>WV F b ρ z1 (λy z2=>Get (pl y) λdy=>Get (E40 o dx dy) λt=>Q [.d (.bl t)] z2) E) E|F,.neg a=>λρ z Q E=>WV F a ρ z (λx z1=>Get ((pl x).bind asI) λi=>Q [.d (.int (-i))] z1) E|F,.not a=>λρ z Q E=>WV F a ρ z (λx z1=>Get ((pl x).bind asB) λb=>Q [.d (.bl !b)] z1) E|F,.and a b=>λρ z Q E=>WV F a ρ z (λx z1=>Get ((pl x).bind asB) λc=>if c then WV F b ρ z1 (λy z2=>Get ((pl y).bind asB) λc=>Q [.d (.bl c)] z2) E else Q [.d (.bl false)] z1) E|F,.or a b=>λρ z Q E=>WV F a ρ z (λx z1=>Get ((pl x).bind asB) λc=>if c then Q [.d (.bl true)] z1 else WV F b ρ z1 (λy z2=>Get ((pl y).bind asB) λc=>Q [.d (.bl c)] z2) E) E|F,.orT a b=>λρ z Q E=>WV F a ρ z (λx z1=>Get ((pl x).bind v62) λl=>if l.isEmpty then WV F b ρ z1 (λy z2=>Get ((pl y).bind v62) λl=>Q [.d (.tup l)] z2) NE else Q [.d (.tup l)] z1) NE|F,.ite c a b=>λρ z Q E=>WV F c ρ z (λx z1=>Get ((pl x).bind asB) λc=>if c then WV F a ρ z1 Q E else WV F b ρ z1 Q E) E|F,.ch o o' a b c=>λρ z Q E=>WV F a ρ z (λx z1=>Get (pl x) λdx=>WV F b ρ z1 (λy z2=>Get (pl y) λdy=>Get (E40 o dx dy) λt=>if t then WV F c ρ z2 (λw z3=>Get (pl w) λdw=>Get (E40 o' dy dw) λt=>Q [.d (.bl t)] z3) E else Q [.d (.bl false)] z2) E) E|F,.bf f as=>λρ z Q E=>WV F as ρ z (λl z1=>Get (plA l) λds=>Get (bfD f ds) λs=>Q [s] z1) E|F,.isi t a=>λρ z Q E=>WV F a ρ z (λx z1=>Get (pl x) λx=>Q [.d (.bl (G22 t x))] z1) E|F,.idx a i=>λρ z Q E=>WV F a ρ z (λx z1=>Get (pl x) λdx=>WV F i ρ z1 (λy z2=>Get (pl y) λdy=>Get (T90 dx dy) λr=>Q [.d r] z2) E) E|F,.sl a lo hi=>λρ z Q E=>WV F a ρ z (λx z1=>Get (pl x) λdx=>WV F lo ρ z1 (λu z2=>Get (z71 u) λu=>WV F hi ρ z2 (λv z3=>Get (z71 v) λv=>Get (slD dx u v) λs=>Q [s] z3) E) E) E|F,.call f as=>λρ z Q E=>WV F as ρ z (λl z1=>W (F false f (l.map plS)) z1 (λs z2=>Q [s] z2) E) E|F,.comp own capt p it src cond el=>λρ z Q E=>WV F src ρ z (λl z1=>Get ((plA l).bind (itD it)) λxs=>if xs.length<=most then W (turns (t60 (ev F cond) (ev F el) p (í own none++capt.map λi=>(ρ[i]?).getD none)) xs) z1 (λys z2=>Q [.fr ys] z2) NE else False) E|F,.lrng b as=>λρ z Q E=>WV F as ρ z (λl z1=>Get ((plA l).bind lrD) λxs=>Q [lrS b xs] z1) E|F,.dkeys a=>λρ z Q E=>WV F a ρ z (λl z1=>Get ((pl l).bind f52) λkss=>Q [.ks kss] z1) E|F,.memk o a i=>λρ z Q E=>WV F a ρ z (λl z1=>Get ((pl l).bind p52) λk=>Get (K62 ρ[i]?) λkss=>Q [.d (.bl (kss.contains k == o))] z1) E|F,.var i=>λρ z Q E=>Vr ρ[i]? z Q|F,.zget i k=>λρ z Q E=>Wm (z81 k ρ[i]? z) Q E
def WE(F:FT)(e:Ex)(ρ:Env)(z:Z)(Q:List S->Z->Prop)(E:Nat->Z->Prop)(_:Du Q E:=()):Prop:=WV F e ρ z Q E
def WX(F:FT)(tp:Bool):Sm->Env->Z->(O->Z->Prop)->(Nat->Z->Prop)->Prop
 |.nil=>λρ z Q E=>Q (.nx ρ) z
 |.seq s r=>λρ z Q E=>WX F tp s ρ z (λo z1=>match o with
  |.nx ρ=>WX F tp r ρ z1 Q E
  |.rt s=>Q (.rt s) z1) E
 |.set p e=>λρ z Q E=>WE F e ρ z (λl z1=>Get (one l) λs=>Get (G50 p s (k40 s ρ)) λρ'=>Q (.nx ρ') z1) E|.ret e=>λρ z Q E=>if l51 e then WE F e ρ z (λl z1=>Get ((one l).bind noS) λs=>Q (.rt s) z1) E else Get (T12 (b53 e ρ)) λs=>Q (.rt s) z|.iff c t e=>λρ z Q E=>WE F c ρ z (λx z1=>Get ((pl x).bind asB) λb=>if b then WX F tp t ρ z1 Q E else WX F tp e ρ z1 Q E) E|.exp e=>λρ z Q E=>WE F e ρ z (λl z1=>Get (one l) λ_=>Q (.nx ρ) z1) E|.rais c=>λρ z Q E=>E c z|.fr p it src b=>λρ z Q E=>WE F src ρ z (λl z1=>Get ((plA l).bind (itD it)) λxs=>W (b31 (λx ρ=>M.bind (M.of (g30 p x ρ)) λρ=>ex F tp b ρ) xs (A01 it src l ρ)) z1 Q E) E|.whl c b=>λρ z Q E=>W (W81 (ev F c) (ex F tp b) p62 ρ) z Q E|.zset i e=>λρ z Q E=>WE F e ρ z (λl z1=>Get ((pl l).bind asI) λv=>Wm (A31 ρ v ρ[i]? z1) Q E) E|.app i e=>λρ z Q E=>Get (ownAt ρ i) λxs=>WE F e ρ z (λl z1=>Get (pl l) λx=>if bare x=true/\xs.length < most then Q (.nx (ρ.set i (some (.fr (xs++[x]))))) z1 else False) E|.apop i j e=>λρ z Q E=>Get (ownAt ρ i) λxs=>Get (ownAt ρ j) λys=>WE F e ρ z (λl z1=>Get ((pl l).bind asI) λk=>Get (A11 ρ i j xs ys k) λo=>Q o z1) E|.newz i f as=>λρ z Q E=>WE F (.call f as) ρ z (λl z1=>Wm (A21 tp ρ i l) Q E) E|.aug o i e=>λρ z Q E=>Get ((ρ[i]?.getD none).bind plD) λy=>WE F e ρ z (λl z1=>Get ((pl l).bind asI) λx=>Get ((asI y).bind λy=>C00 o (.int y) (.int x)) λs=>Get (G50 (.v i) s (k40 s ρ)) λρ=>Q (.nx ρ) z1) E
def WS(F:FT)(tp:Bool)(s:Sm)(ρ:Env)(z:Z)(Q:O->Z->Prop)(E:Nat->Z->Prop)(_:Du Q E:=()):Prop:=WX F tp s ρ z Q E
theorem D02:∀ (e:Ex) {F:FT}{ρ:Env}{z:Z}{Q:List S->Z->Prop}{E:Nat->Z->Prop},WV F e ρ z Q E↔W (ev F e ρ) z Q E:=by
 intro e
 induction e with
 |nil=>intros;exact wR|cons a r ha hr=>intros;exact wB ha λx z1=>wG λs=>wB hr λy z2=>wR
 |var i =>
  intro F ρ z Q E;show Vr ρ[i]? z Q↔W (match ρ[i]? with | some (some s)=>M.ret [plS s] | _=>M.no) z Q E
  generalize ρ[i]?=o
  match o with
  |some (some s)=>exact wR|some none=>exact wN|none=>exact wN
 |con x=>intros;exact wR|gint g i=>intros;exact wR|tup a ha=>intros;exact wB ha λl z1=>wG λds=>wT wR wN|lst a ha=>intros;exact wB ha λl z1=>wG λds=>wT wR wN|bin o a b ha hb=>intros;exact wB ha λx z1=>wG λdx=>wB hb λy z2=>wG λdy=>wG λs=>wR|cmp o a b ha hb=>intros;exact wB ha λx z1=>wG λdx=>wB hb λy z2=>wG λdy=>wG λs=>wR|neg a ha=>intros;exact wB ha λx z1=>wG λi=>wR|not a ha=>intros;exact wB ha λx z1=>wG λi=>wR|and a b ha hb=>intros;exact wB ha λx z1=>wG λc=>wT (wB hb λy z2=>wG λc=>wR) wR|or a b ha hb=>intros;exact wB ha λx z1=>wG λc=>wT wR (wB hb λy z2=>wG λc=>wR)|orT a b ha hb=>intros;refine Iff.trans ?_ Y81.symm;exact wB ha λx z1=>wG λl=>wT (wB hb λy z2=>wG λl=>wR) wR|ite c a b hc ha hb=>intros;exact wB hc λx z1=>wG λc=>wT ha hb|ch o o' a b c ha hb hc=>intros;exact wB ha λx z1=>wG λdx=>wB hb λy z2=>wG λdy=>wG λt=>wT (wB hc λw z3=>wG λdw=>wG λt=>wR) wR|bf f a ha=>intros;exact wB ha λl z1=>wG λds=>wG λs=>wR|isi t a ha=>intros;exact wB ha λx z1=>wG λx=>wR|idx a i ha hi=>intros;exact wB ha λx z1=>wG λdx=>wB hi λy z2=>wG λdy=>wG λr=>wR|sl a l h ha hl hh=>intros;exact wB ha λx z1=>wG λdx=>wB hl λu z2=>wG λu=>wB hh λv z3=>wG λv=>wG λs=>wR|call f a ha=>intros;exact wB ha λl z1=>wB Ù0 λs z2=>wR|comp own capt p it src cond el hs hc he=>intros;exact wB hs λl z1=>wG λxs=>wT (wB Y81.symm λys z2=>wR) wN|zget i k=>intros;exact wM (m:=z81 k _)|lrng b a ha=>intros;exact wB ha λl z1=>wG λxs=>wR|dkeys a ha=>intros;exact wB ha λl z1=>wG λxs=>wR|memk o a i ha=>intros;exact wB ha λl z1=>wG λk=>wG λxs=>wR
theorem d00{e:Ex}{F:FT}{ρ:Env}{z:Z}{Q:List S->Z->Prop}{E:Nat->Z->Prop}:WE F e ρ z Q E↔W (ev F e ρ) z Q E:=D02 e
theorem Q52{F:FT}{tp:Bool}{ρ:Env}{e:Ex}(h:l51 e=true):ex F tp (.ret e) ρ=M.bind (ev F e ρ) λl=>M.bind (M.of ((one l).bind noS)) λs=>M.ret (.rt s):=by
 cases e with
 |var i=>cases h
 |_=>rfl
theorem D12{F:FT}{tp:Bool}:∀ (s:Sm) {ρ:Env}{z:Z}{Q:O->Z->Prop}{E:Nat->Z->Prop},WX F tp s ρ z Q E↔W (ex F tp s ρ) z Q E:=by
 intro s
 induction s with
 |nil=>intros;exact wR
 |seq s r hs hr =>
  intros;refine wB hs λo z1=>?_;cases o with
  |nx ρ=>exact hr|rt s=>exact wR
 |set p e=>intros;exact wB d00 λl z1=>wG λs=>wG λρ'=>wR
 |ret e =>
  intro ρ z Q E;show(if l51 e then _ else _)↔_;cases h:l51 e with
  |true =>
   refine(iff_of_eq (if_pos rfl)).trans ?_;rw[Q52 h];exact wB d00 λl z1=>wG λs=>wR
  |false =>
   cases e with
   |var i =>
    refine(iff_of_eq (if_neg Í)).trans ?_;show Get (T12 ρ[i]?) _↔W (match ρ[i]? with | some (some s)=>M.bind (M.of (noS s)) λs=>M.ret (O.rt s) | _=>M.no) z Q E
    generalize ρ[i]?=o
    match o with
    |some (some s)=>exact wG λs=>wR|some none=>exact wN|none=>exact wN
   |_=>cases h
 |iff c t u ht hu=>intros;exact wB d00 λx z1=>wG λc=>wT ht hu|exp e=>intros;exact wB d00 λl z1=>wG λs=>wR|rais c=>intros;exact(b63 rfl).symm|fr p it src b ih=>intros;exact wB d00 λl z1=>wG λxs=>Ù0|whl c b ih=>intros;exact Ù0|zset i e=>intros;exact wB d00 λl z1=>wG λv=>wM (m:=A31 _ v _)|app i e=>intros;exact wG λxs=>wB d00 λl z1=>wG λx=>wT wR wN|apop i j e=>intros;exact wG λxs=>wG λys=>wB d00 λl z1=>wG λk=>wG λo=>wR|newz i f as=>intros;exact wB d00 λl z1=>wM (m:=λ_=>A21 tp _ i l)|aug o i e=>intros;exact wG λy=>wB d00 λl z1=>wG λx=>wG λs=>wG λρ=>wR
theorem Y30:WS F tp s ρ z Q E↔W (ex F tp s ρ) z Q E:=D12 s
theorem WS.mono{s:Sm}{F:FT}{tp:Bool}{ρ:Env}{z:Z}{Q Q':O->Z->Prop}{E E':Nat->Z->Prop}(h:WS F tp s ρ z Q E)(hq:∀ a z,Q a z->Q' a z)(he:∀ c z,E c z->E' c z):WS F tp s ρ z Q' E':=Y30.mpr (W.mono (Y30.mp h) hq he)
theorem l22(Mid:Env->Z->Prop)(h:WS F tp s ρ z (λo z1=>match o with
  |.nx ρ=>Mid ρ z1
  |.rt s=>Q (.rt s) z1) E) (h2:∀ ρ z,Mid ρ z->WS F tp r ρ z Q E):WS F tp (.seq s r) ρ z Q E:=by
 refine WS.mono (s:=s) h (λo z1 h=>?_) λ_ _ h=>h;cases o with
 |nx ρ=>exact h2 ρ z1 h|rt s=>exact h
section
variable {T:List Df}{k f ps ns:Nat}{b:Sm}{l:List S}{z:Z}{Q:S->Z->Prop}{E:Nat->Z->Prop}
theorem D22(h:T[f]?=some (.code ps ns b))(hl:l.length=ps)(hn:ps<=ns):W (a70 T (k + 3) f l) z Q E↔WS (A41 T (k + 2)) z.isNone b (start ns (l.map plS)) z (λo z1=>match o with
  |.nx _=>Q (.d .non) (P30 z z1)
  |.rt s=>Q s (P30 z z1)) λc z1=>E c (P30 z z1):=by
 refine Iff.trans ?_ Y30.symm;rw[d61,h];show W (λz=>if l.length=ps/\ps<=ns then(match ex (A41 T (k + 2)) z.isNone b (start ns (l.map plS)) z with
  |some (.ok (.nx _) z1)=>some (R.ok (S.d .non) (P30 z z1))|some (.ok (.rt s) z1)=>some (.ok s (P30 z z1))|some (.er c z1)=>some (.er c (P30 z z1))
  |none=>none) else none) z Q E↔_
 rw[W_e,W_e];constructor
 ·rintro ⟨r,e,q⟩;rw[if_pos ⟨hl,hn⟩] at e;split at e
  ·rename_i ρ z1 e1;cases e;exact⟨_,e1,q⟩
  ·rename_i s z1 e1;cases e;exact⟨_,e1,q⟩
  ·rename_i c z1 e1;cases e;exact⟨_,e1,q⟩
  ·cases e
 ·rintro ⟨r,e,q⟩;rw[if_pos ⟨hl,hn⟩,e]
  match r,q with
  |.ok (.nx ρ) z1,q=>exact⟨_,rfl,q⟩|.ok (.rt s) z1,q=>exact⟨_,rfl,q⟩|.er c z1,q=>exact⟨_,rfl,q⟩
end
section
variable {F:FT}{tp:Bool}{ρ:Env}{z:Z}{E:Nat->Z->Prop}
theorem f41{f:D->M (Option D)}{o:D->Option D}:∀ {xs:List D}{Q:List D->Z->Prop},(∀ x∈xs,f x z=some (.ok (o x) z))->(W (turns f xs) z Q E↔Q (xs.filterMap o) z)
 |[],Q,_=>E20
 |x::r,Q,h=>by
  show W (M.bind (f x) _) z Q E↔_;rw[q80,T22 (h x Ç),q80,f41 λy hy=>h y (É _ hy),E20];rw[Â0];cases o x <;> rfl
theorem l61{f:D->M (Option D)}{I:Z->Prop}{P:D->D->Prop}:∀ {xs:List D}{z:Z}{Q:List D->Z->Prop},I z->(∀ x∈xs,∀ z,I z->W (f x) z (λo z1=>I z1/\∃ y,o=some y/\P x y) NE)->(∀ ys z1,I z1->Ä5 P xs ys->Q ys z1)->W (turns f xs) z Q E
 |[],z,Q,hi,_,q=>E20.mpr (q [] z hi .nil)
 |x::r,z,Q,hi,h,q=>by
  show W (M.bind (f x) _) z Q E;rw[q80];refine(h x Ç z hi).imp λo z1 ⟨hi1,y,e,hp⟩=>?_;subst e;rw[q80];refine l61 hi1 (λx' hx'=>h x' (É _ hx')) λys z2 hi2 hps=>?_;exact E20.mpr (q _ _ hi2 (.cons hp hps))
theorem Y91(I:List D->Env->Z->Prop):∀ (xs:List D) {ρ:Env}{z:Z},I xs ρ z->(∀ x r ρ z,I (x::r) ρ z->W (f x ρ) z (λo z1=>match o with
  |.nx ρ=>I r ρ z1
  |.rt s=>Q (.rt s) z1) E)->(∀ ρ z,I [] ρ z->Q (.nx ρ) z)->W (b31 f xs ρ) z Q E
 |[],ρ,z,hi,_,q=>E20.mpr (q _ _ hi)
 |x::r,ρ,z,hi,h,q=>by
  show W (M.bind (f x ρ) _) z Q E;rw[q80];refine(h x r ρ z hi).mono (λo z1 ho=>?_) λ_ _ h=>h;cases o with
  |nx ρ1=>exact Y91 I r ho h q|rt s=>exact E20.mpr ho
theorem D32{c:Env->M (List S)}{f:Env->M O}{Q:O->Z->Prop}(I:Nat->Env->Z->Prop)(step:∀ n ρ z,I n ρ z->W (c ρ) z (λx z1=>Get ((pl x).bind asB) λk=>if k then W (f ρ) z1 (λo z2=>match o with
  |.nx ρ=>∃ m,m < n/\I m ρ z2
  |.rt s=>Q (.rt s) z2) E else Q (.nx ρ) z1) E):∀ (n m:Nat) {ρ:Env}{z:Z},I n ρ z->n < m->W (W81 c f m ρ) z Q E:=by
 intro n
 induction n using Û8 with
 |ind n ih =>
  intro m ρ z hi hm;cases m with
  |zero=>omega
  |succ m =>
   show W (M.bind (c ρ) _) z Q E;rw[q80];refine(step n ρ z hi).mono (λx z1 h=>?_) λ_ _ h=>h;obtain⟨k,e,h⟩:=n50 h;refine(wG (K:=λk=>if k=true then W (M.bind (f ρ) _) z1 Q E else W (M.ret (O.nx ρ)) z1 Q E) λk=>wT Ù0 Ù0).mp (a00 e ?_);cases k with
   |true =>
    rw[if_pos rfl] at h ⊢;rw[q80];refine h.mono (λo z2 h=>?_) λ_ _ h=>h;cases o with
    |nx ρ1 =>
     obtain⟨j,hj,hi⟩:=h;exact ih j hj m hi ∅
    |rt s=>exact E20.mpr h
   |false =>
    rw[if_neg Í] at h ⊢;exact E20.mpr h
end
mutual
noncomputable def cE:D->Ex
 |.tup l=>.tup (cEs l)|.lst l=>.lst (cEs l)|.int i=>if i < 0 then .neg (.con (.int (-i))) else .con (.int i)|x=>.con x
noncomputable def cEs:List D->Ex
 |[]=>.nil|x::r=>.cons (cE x) (cEs r)
end
mutual
noncomputable def okC:D->Bool
 |.tup l=>decide (l.length<=most)&&Q62 l|.lst l=>decide (l.length<=most)&&Q62 l|_=>true
noncomputable def Q62:List D->Bool
 |[]=>true|x::r=>okC x&&Q62 r
end
def cX(d:D)(_:okC d=true):Ex:=cE d
section
variable {F:FT}{ρ:Env}{z:Z}{Q:List S->Z->Prop}{E:Nat->Z->Prop}{a b c as:Ex}{p:Pat}{ρ0:Env}{x:D}{Q1:Option D->Z->Prop}
theorem F11:W (t60 (ev F .nil) (ev F a) p ρ0 x) z Q1 E↔Get (g30 p x ρ0) λρ=>WE F a ρ z (λy z1=>Get (pl y) λd=>Q1 (some d) z1) E :=
 (wG λρ=>show _↔W (M.bind (ev F a ρ) λy=>M.bind (M.of (pl y)) λy=>M.ret (some y)) z Q1 E from wB d00 λy z1=>wG λd=>wR).symm
theorem D42{l:List S}{m:M (List S)}{V:Prop}(h:V↔W (M.bind m λy=>M.bind (M.of (pl y)) λy=>M.ret (some y)) z Q1 E):(match l with | [s]=>Get (blS s) λb=>if b then V else Q1 none z | _=>l=[]/\V)↔W (match l with
  |[]=>M.bind m λy=>M.bind (M.of (pl y)) λy=>M.ret (some y)|[.d (.bl true)]=>M.bind m λy=>M.bind (M.of (pl y)) λy=>M.ret (some y)|[.d (.bl false)]=>M.ret none
  |_=>M.no) z Q1 E:=by
 match l with
 |[]=>exact⟨λx=>h.mp x.2,λx=>⟨rfl,h.mpr x⟩⟩|[.d (.bl true)]=>exact C82.trans ((iff_of_eq (if_pos rfl)).trans h)|[.d (.bl false)]=>exact C82.trans ((iff_of_eq (if_neg Í)).trans wR)|[.d .non]=>exact wN|[.d (.int _)]=>exact wN|[.d (.str _)]=>exact wN|[.d (.tup _)]=>exact wN|[.d (.lst _)]=>exact wN|[.d .dct]=>exact wN|[.fr _]=>exact wN|[.z]=>exact wN|[.ks _]=>exact wN
 |s::_::_ =>
  refine⟨λx=>(by cases x.1),λx=>?_⟩
  cases s with
  |d y =>
   cases y with
   |bl b=>cases b <;> exact(C92.mp x).elim
   |_=>exact(C92.mp x).elim
  |_=>exact(C92.mp x).elim
theorem F21:W (t60 (ev F (.cons c .nil)) (ev F a) p ρ0 x) z Q1 E↔Get (g30 p x ρ0) λρ=>WE F c ρ z (λy z1=>Get (one y) λs=>Get (blS s) λb=>if b then WE F a ρ z1 (λy z2=>Get (pl y) λd=>Q1 (some d) z2) E else Q1 none z1) E:=by
 refine Iff.symm (wG λρ=>?_);refine wB (d00 (F:=F) (e:=.cons c .nil) (ρ:=ρ) (Q:=λl z1=>match l with | [s]=>Get (blS s) λb=>if b then WE F a ρ z1 (λy z2=>Get (pl y) λd=>Q1 (some d) z2) E else Q1 none z1 | _=>l=[]/\WE F a ρ z1 (λy z2=>Get (pl y) λd=>Q1 (some d) z2) E)) λl z1=>?_
 exact D42 (wB d00 λy z1=>wG λd=>wR)
end
section
variable {α:Type}{m:M α}{z z1:Z}{Q Q':α->Z->Prop}{E:Nat->Z->Prop}
theorem Wo(h:m z=some (.ok a z1))(q:Q a z1):W m z Q E:=⟨_,h,q⟩
end
theorem f40{T:List Df}{k f ps ns:Nat}{b:Sm}{l:List S}{z:Z}{Q:S->Z->Prop}{E:Nat->Z->Prop}(h:T[f]?=some (.code ps ns b))(hl:l.length=ps)(hn:ps<=ns)(q:WS (A41 T (k + 2)) z.isNone b (start ns (l.map plS)) z (λo z1=>match o with
  |.nx _=>Q (.d .non) (P30 z z1)
  |.rt s=>Q s (P30 z z1)) λc z1=>E c (P30 z z1)):W (a70 T (k + 3) f l) z Q E:=(D22 h hl hn).mpr q
theorem ib{b:Bool}{A B:Prop}(ht:b=true->A)(hf:b=false->B):if b=true then A else B:=by
 cases b with
 |true=>exact ht rfl|false=>exact hf rfl
theorem it{b:Bool}{A B:Prop}(h:b=true)(a:A):if b=true then A else B:=by rw[if_pos h];exact a
theorem ie{b:Bool}{A B:Prop}(h:b=false)(a:B):if b=true then A else B:=by rw[h];exact a
theorem ip{c:Prop}[Decidable c]{A B:Prop}(h:c)(a:A):if c then A else B:=by rw[if_pos h];exact a
theorem F31(z:Z):P30 z z=z:=by cases z <;> rfl
theorem sd{s t:S}{z:Z}(h:s=t):s=t/\P30 z z=z:=⟨h,F31 z⟩
theorem sb(h:b=c):S.d (.bl b)=S.d (.bl c)/\P30 z z=z:=sd (by rw[h])
section
variable {F:FT}{tp:Bool}{z:Z}{E:Nat->Z->Prop}{p:Pat}
theorem H90(I:List D->Env->Z->Prop)(xs:List D)(hi:I xs ρ z)(h:∀ x r ρ z,I (x::r) ρ z->Get (g30 p x ρ) λρ=>WS F tp b ρ z (λo z1=>match o with
  |.nx ρ=>I r ρ z1
  |.rt s=>Q (.rt s) z1) E) (q:∀ ρ z,I [] ρ z->Q (.nx ρ) z):W (b31 (λx ρ=>M.bind (M.of (g30 p x ρ)) λρ=>ex F tp b ρ) xs ρ) z Q E :=
 Y91 I xs hi (λx r ρ z hi=>(wG λρ=>Y30).mp (h x r ρ z hi)) q
theorem l32(I:Nat->Env->Z->Prop)(n:Nat)(hi:I n ρ z)(hn:n < p62)(h:∀ n ρ z,I n ρ z->WE F c ρ z (λx z1=>Get ((pl x).bind asB) λk=>if k then WS F tp b ρ z1 (λo z2=>match o with
  |.nx ρ=>∃ m,m < n/\I m ρ z2
  |.rt s=>Q (.rt s) z2) E else Q (.nx ρ) z1) E):W (W81 (ev F c) (ex F tp b) p62 ρ) z Q E:=by
 refine D32 I (λn ρ z hi=>?_) n p62 hi hn;refine(d00.mp (h n ρ z hi)).mono (λx z1 h=>?_) λ_ _ h=>h;obtain⟨k,e,h⟩:=n50 h;refine a00 e ?_;cases k with
 |true=>exact Y30.mp h|false=>exact h
variable {ρ0:Env}{cond el:Ex}{xs:List D}{Q:List D->Z->Prop}
theorem I00(o:D->D)(h:∀ x∈xs,Get (g30 p x ρ0) λρ=>WE F el ρ z (λy z1=>Get (pl y) λd=>d=o x/\z1=z) NE)(q:Q (xs.map o) z):W (turns (t60 (ev F .nil) (ev F el) p ρ0) xs) z Q E:=by
 refine(f41 (o:=λx=>some (o x)) λx hx=>?_).mpr ?_
 ·refine W.ok (F11.mpr ?_);obtain⟨ρ,e,h⟩:=n50 (h x hx);refine a00 e (d00.mpr ((d00.mp h).imp λy z1 h=>?_));obtain⟨d,e,rfl,rfl⟩:=n50 h;exact a00 e ⟨rfl,rfl⟩
 ·rw[show xs.filterMap (λx=>some (o x))=xs.map o from congrFun (List.filterMap_eq_map (f:=o)) xs];exact q
theorem Q72{c:D->Bool}{o:D->D}:∀ xs:List D,xs.filterMap (λx=>if c x then some (o x) else none)=(xs.filter c).map o
 |[]=>rfl
 |x::r=>by
  rw[Â0,List.filter_cons];cases hc:c x with
  |false=>exact Q72 r|true=>exact congrArg (o x::·) (Q72 r)
theorem l42(c:D->Bool)(o:D->D)(h:∀ x∈xs,Get (g30 p x ρ0) λρ=>WE F cond ρ z (λy z1=>Get (one y) λs=>s=.d (.bl (c x))/\z1=z/\(c x=true->WE F el ρ z (λy z1=>Get (pl y) λd=>d=o x/\z1=z) NE)) NE)(q:Q ((xs.filter c).map o) z):W (turns (t60 (ev F (.cons cond .nil)) (ev F el) p ρ0) xs) z Q E:=by
 refine(f41 (o:=λx=>if c x then some (o x) else none) λx hx=>?_).mpr ?_
 ·refine W.ok (F21.mpr ?_);obtain⟨ρ,e,h⟩:=n50 (h x hx);refine a00 e (d00.mpr ((d00.mp h).imp λy z1 h=>?_));obtain⟨s,e,rfl,rfl,h⟩:=n50 h;refine a00 e ?_;show if c x=true then _ else _;cases hc:c x with
  |false=>exact⟨rfl,rfl⟩
  |true =>
   refine d00.mpr ((d00.mp (h hc)).imp λy z1 h=>?_);obtain⟨d,e,rfl,rfl⟩:=n50 h;exact a00 e ⟨rfl,rfl⟩
 ·rw[Q72];exact q
theorem D52{I:Z->Prop}(o:D->D):∀ {xs:List D}{z:Z}{Q:List D->Z->Prop},I z->(∀ x∈xs,∀ z,I z->Get (g30 p x ρ0) λρ=>WE F cond ρ z (λy z1=>Get (one y) λs=>I z1/\∃ b,s=.d (.bl b)/\(b=true->WE F el ρ z1 (λy z2=>Get (pl y) λd=>d=o x/\z2=z1) NE)) NE) ->
  (∀ ys z1,I z1->ys.Sublist (xs.map o)->Q ys z1)->W (turns (t60 (ev F (.cons cond .nil)) (ev F el) p ρ0) xs) z Q E
 |[],z,Q,hi,_,q=>E20.mpr (q [] z hi .slnil)
 |x::r,z,Q,hi,h,q=>by
  show W (M.bind (t60 _ _ p ρ0 x) _) z Q E;refine q80.mpr (F21.mpr ?_);obtain⟨ρ,e,h0⟩:=n50 (h x Ç z hi);refine a00 e (d00.mpr ((d00.mp h0).imp λy z1 h1=>?_));obtain⟨s,e,hi1,b,rfl,h2⟩:=n50 h1;refine a00 e ?_;show if b=true then _ else _;have hr:=λ{Q:List D->Z->Prop} (q:∀ ys z1,I z1->ys.Sublist (r.map o)->Q ys z1)=>D52 o (z:=z1) hi1 (λy hy=>h y (É _ hy)) q;cases b with
  |false=>exact q80.mpr (hr λys z2 hi2 hs=>E20.mpr (q ys z2 hi2 (hs.cons _)))
  |true =>
   refine d00.mpr ((d00.mp (h2 rfl)).imp λy z2 h3=>?_);obtain⟨d,e,rfl,rfl⟩:=n50 h3;exact a00 e (q80.mpr (hr λys z2 hi2 hs=>E20.mpr (q _ z2 hi2 (hs.cons_cons _))))
theorem T32{I:Z->Prop}{P:D->D->Prop}(hi:I z)(h:∀ x∈xs,∀ z,I z->Get (g30 p x ρ0) λρ=>WE F el ρ z (λy z1=>Get (pl y) λd=>I z1/\P x d) NE)(q:∀ ys z1,I z1->Ä5 P xs ys->Q ys z1):W (turns (t60 (ev F .nil) (ev F el) p ρ0) xs) z Q E:=by
 refine l61 hi (λx hx z hz=>F11.mpr ?_) q;obtain⟨ρ,e,h⟩:=n50 (h x hx z hz);refine a00 e (d00.mpr ((d00.mp h).imp λy z1 h=>?_));obtain⟨d,e,h⟩:=n50 h;exact a00 e ⟨h.1,d,rfl,h.2⟩
end
theorem F41{s:S}{ρ:Env}(h:K20 s=true):k40 s ρ=ρ:=by
 unfold k40;rw[W40,h];rfl
theorem l52{F:FT}{tp:Bool}{p:Pat}{e:Ex}{r:Sm}{ρ:Env}{z:Z}{Q:O->Z->Prop}{E:Nat->Z->Prop}(s:S)(ρ':Env)(he:WE F e ρ z (λl z1=>Get (one l) λt=>t=s/\z1=z) NE)(hb:G50 p s (k40 s ρ)=some ρ')(q:WS F tp r ρ' z Q E):WS F tp (.seq (.set p e) r) ρ z Q E:=by
 show WE F e ρ z (λl z1=>Get (one l) λs=>Get (G50 p s (k40 s ρ)) λρ'=>WX F tp r ρ' z1 Q E) E;refine d00.mpr ((d00.mp he).imp λl z1 h=>?_);obtain⟨t,e,rfl,rfl⟩:=n50 h;exact a00 e (a00 hb q)
end Q
namespace K3
open PySem L2 Q
def top(i:Nat):Stmt:=ú.main.body.getD i (.Pass ⟨0,0,0,0⟩)
def nums:List (Str × Int):=[(("MOST_PLACES":Str),(6:Int)),(("MOST_TIES":Str),(8:Int)),(("MOST_BOTTOM":Str),(1000:Int))]
abbrev v0:Ex:=.var 0
abbrev v1:Ex:=.var 1
abbrev v2:Ex:=.var 2
abbrev v3:Ex:=.var 3
abbrev v4:Ex:=.var 4
abbrev v5:Ex:=.var 5
abbrev v6:Ex:=.var 6
abbrev v7:Ex:=.var 7
abbrev v8:Ex:=.var 8
abbrev v9:Ex:=.var 9
abbrev n0:Ex:=.con (.int 0)
abbrev n1:Ex:=.con (.int 1)
abbrev n2:Ex:=.con (.int 2)
abbrev c1(a:Ex):Ex:=.cons a .nil
abbrev c2(a b:Ex):Ex:=.cons a (.cons b .nil)
abbrev c3(a b c:Ex):Ex:=.cons a (.cons b (.cons c .nil))
abbrev c4(a b c d:Ex):Ex:=.cons a (.cons b (.cons c (.cons d .nil)))
abbrev c5(a b c d e:Ex):Ex:=.cons a (.cons b (.cons c (.cons d (.cons e .nil))))
abbrev s1(a:Sm):Sm:=.seq a .nil
abbrev p2(a b:Pat):Pat:=.tup (.cons a (.cons b .nil))
abbrev j10:Nat:=0
abbrev E80:Nat:=1
abbrev Z01:Nat:=2
abbrev F51:Nat:=3
abbrev Y40:Nat:=4
abbrev Z11:Nat:=5
abbrev n60:Nat:=6
abbrev t00:Nat:=7
abbrev l71:Nat:=8
abbrev L90:Nat:=9
abbrev l81:Nat:=10
abbrev Q70:Nat:=11
abbrev h80:Nat:=12
abbrev Q80:Nat:=13
abbrev h90:Nat:=14
abbrev d80:Nat:=15
abbrev C20:Nat:=16
abbrev M00:Nat:=17
abbrev f80:Nat:=18
abbrev I10:Nat:=19
abbrev y30:Nat:=20
abbrev k60:Nat:=21
abbrev I20:Nat:=22
abbrev o70:Nat:=23
abbrev C30:Nat:=24
abbrev M10:Nat:=25
abbrev C40:Nat:=26
abbrev u30:Nat:=27
abbrev M20:Nat:=28
abbrev k70:Nat:=29
abbrev q90:Nat:=30
abbrev y40:Nat:=31
abbrev A70:Nat:=32
abbrev Y50:Nat:=33
abbrev C50:Nat:=34
abbrev r00:Nat:=35
abbrev u40:Nat:=36
abbrev g70:Nat:=37
abbrev e70:Nat:=38
abbrev C60:Nat:=39
abbrev C70:Nat:=40
abbrev l70:Nat:=41
abbrev p80:Nat:=42
abbrev I30:Nat:=43
abbrev y50:Nat:=44
abbrev y60:Nat:=45
abbrev Y60:Nat:=46
abbrev r10:Nat:=47
abbrev f51:Nat:=48
abbrev u50:Nat:=49
abbrev C80:Nat:=50
abbrev b30:Nat:=51
abbrev C90:Nat:=52
abbrev M30:Nat:=53
abbrev y70:Nat:=54
abbrev u60:Nat:=55
abbrev y80:Nat:=56
abbrev u70:Nat:=57
abbrev l80:Nat:=58
abbrev D62:Nat:=59
def j20:Sm:=(.seq (.whl (.cmp .gt v1 n0) (s1 (.set (p2 (.v 0) (.v 1)) (.tup (c2 v1 (.bin .mod v0 v1)))))) (s1 (.ret v0)))
def Q90:Sm:=(.seq (.set (.v 2) (.call j10 (c2 v0 v1))) (s1 (.ret (.tup (c2 (.bin .fdiv v0 v2) (.bin .fdiv v1 v2))))))
def F61:Sm:=(s1 (.ret (.call E80 (c2 (.bin .add (.bin .mul (.idx v0 n0) (.idx v1 n1)) (.bin .mul (.idx v1 n0) (.idx v0 n1))) (.bin .mul (.idx v0 n1) (.idx v1 n1))))))
def f61:Sm:=(s1 (.ret (.call E80 (c2 (.bin .mul (.idx v0 n0) (.idx v1 n0)) (.bin .mul (.idx v0 n1) (.idx v1 n1))))))
def I40:Sm:=(.seq (.set (.v 1) (cX (.tup [(.int 1),(.int 1)]) (-0))) (.seq (.fr (.v 2) .seq (c1 v0) (s1 (.set (.v 1) (.call F51 (c2 v1 v2))))) (s1 (.ret v1))))
def F71:Sm:=(s1 (.ret (.tup (c2 (.bin .sub (.idx v0 n1) (.idx v0 n0)) (.idx v0 n1)))))
def M40:Sm:=(s1 (.ret (.and (.isi .int v0) (.not (.isi .bool v0)))))
def A80:Sm:=(s1 (.ret (.and (.call n60 (c1 v0)) (.ch .le .lt n0 v0 v1))))
def R00:Sm:=(.seq (.iff (.or (.not (.isi .tuple v0)) (.cmp .ne (.bf .len (c1 v0)) n2)) (s1 (.ret (.con (.bl false)))) .nil) (.seq (.set (p2 (.v 2) (.v 3)) v0) (s1 (.ret (.and (.call t00 (c2 v2 v1)) (.and (.call t00 (c2 v3 v1)) (.cmp .lt v2 v3)))))))
def A90:Sm:=(.seq (.iff (.or (.not (.isi .tuple v0)) (.cmp .gt (.bf .len (c1 v0)) (.gint "MOST_TIES" 8))) (s1 (.ret (.con (.bl false)))) .nil) (.seq (.iff (.not (.bf .all (c1 (.comp 1 [1] (.v 0) .seq (c1 v0) .nil (.call l71 (c2 v0 v1)))))) (s1 (.ret (.con (.bl false)))) .nil) (s1 (.ret (.bf .all (c1 (.comp 2 [] (p2 (.v 0) (.v 1)) .zip (c2 v0 (.sl v0 (c1 n1) .nil)) .nil (.cmp .le v0 v1))))))))
def R10:Sm:=(.seq (.iff (.or (.not (.isi .tuple v0)) (.cmp .ne (.bf .len (c1 v0)) n2)) (s1 (.ret (.con (.bl false)))) .nil) (.seq (.set (p2 (.v 1) (.v 2)) v0) (s1 (.ret (.and (.call n60 (c1 v1)) (.and (.ch .le .le n1 v1 (.gint "MOST_PLACES" 6)) (.call L90 (c2 v2 v1))))))))
def R20:Sm:=(s1 (.ret (.bf .all (c1 (.comp 2 [] (p2 (.v 0) (.v 1)) .zip (c2 v0 (.sl v0 (c1 n1) .nil)) .nil (.cmp .lt v0 v1))))))
def i00:Sm:=(.seq (.iff (.not (.isi .tuple v0)) (s1 (.ret (.con (.bl false)))) .nil) (s1 (.ret (.and (.bf .all (c1 (.comp 1 [1] (.v 0) .seq (c1 v0) .nil (.call t00 (c2 v0 v1))))) (.call Q70 (c1 v0))))))
def R30:Sm:=(s1 (.ret (.call h80 (c2 v1 (.bf .len (c1 (.idx v0 n1)))))))
def v80:Sm:=(s1 (.iff (.not (.call l81 (c1 v0))) (s1 (.rais 0)) .nil))
def m40:Sm:=(s1 (.iff (.or (.not (.call h80 (c2 v1 (.idx v0 n0)))) (.cmp .eq (.bf .len (c1 v1)) n0)) (s1 (.rais 2)) .nil))
def r20:Sm:=(s1 (.ret (.lrng true (c1 (.idx v0 n0)))))
def B00:Sm:=(.seq (.set (p2 (.v 2) (.v 3)) v0) (.seq (.set (.v 4) (.lrng false (c1 v2))) (.seq (.fr (.v 5) .seq (c1 v1) (.seq (.set (p2 (.v 6) (.v 7)) (.idx v3 v5)) (.seq (.set (.v 8) (.idx v4 v6)) (.seq (.set (.v 9) (.idx v4 v7)) (s1 (.set (.v 4) (.comp 1 [8,9] (.v 0) .seq (c1 v4) .nil (.ite (.cmp .eq v0 v2) v1 v0)))))))) (s1 (.ret v4)))))
def r30:Sm:=(.seq (.set (.v 3) (.call M00 (c2 v0 v1))) (s1 (.ret (.bf .all (c1 (.comp 1 [2,3] (.v 0) .seq (c1 v2) .nil (.cmp .eq (.idx v2 v0) (.idx v2 (.idx v1 n0)))))))))
def v90:Sm:=(.seq (.iff (.or (.not (.isi .tuple v0)) (.cmp .ne (.bf .len (c1 v0)) n2)) (s1 (.ret (.con (.bl false)))) .nil) (.seq (.set (p2 (.v 1) (.v 2)) v0) (.seq (.iff (.or (.not (.call n60 (c1 v1))) (.not (.call n60 (c1 v2)))) (s1 (.ret (.con (.bl false)))) .nil) (.seq (.iff (.or (.not (.ch .le .le n1 v2 (.gint "MOST_BOTTOM" 1000))) (.not (.ch .le .le n0 v1 v2))) (s1 (.ret (.con (.bl false)))) .nil) (s1 (.ret (.cmp .eq (.call j10 (c2 v1 v2)) n1)))))))
def o80:Sm:=(.seq (.exp (.call h90 (c1 v0))) (.seq (.iff (.or (.not (.isi .tuple v1)) (.cmp .ne (.bf .len (c1 v1)) (.bf .len (c1 (.idx v0 n1))))) (s1 (.ret (.con (.bl false)))) .nil) (s1 (.ret (.bf .all (c1 (.comp 1 [] (.v 0) .seq (c1 v1) .nil (.call I10 (c1 v0)))))))))
def k80:Sm:=(s1 (.iff (.not (.call y30 (c2 v0 v1))) (s1 (.rais 6)) .nil))
def w00:Sm:=(s1 (.ret (.bf .tuple (c1 (.comp 1 [1] (.v 0) .seq (c1 v0) (c1 (.cmp .ne v0 v1)) v0)))))
def f50:Sm:=(.seq (.iff (.call f80 (c3 v0 v2 v1)) (s1 (.ret (cX (.tup [(.str "yes")]) (-0)))) .nil) (.seq (.iff (.not (.call f80 (c3 v0 v3 v1))) (s1 (.ret (cX (.tup [(.str "no")]) (-0)))) .nil) (.seq (.set (.v 4) (.idx (.comp 1 [2] (.v 0) .seq (c1 v3) (c1 (.cmp .nmem v0 v1)) v0) n0)) (.seq (.set (.v 5) (.call o70 (c4 v0 v1 (.bin .add v2 (.tup (c1 v4))) v3))) (.seq (.set (.v 6) (.call o70 (c4 v0 v1 v2 (.call I20 (c2 v3 v4))))) (s1 (.ret (.tup (c4 (.con (.str "tie")) v4 v5 v6)))))))))
def r40:Sm:=(.seq (.exp (.call h90 (c1 v0))) (.seq (.exp (.call d80 (c2 v0 v1))) (s1 (.ret (.call o70 (c4 v0 v1 (.tup .nil) (.lrng true (c1 (.bf .len (c1 (.idx v0 n1)))))))))))
def t10:Sm:=(.seq (.set (.v 1) (cX (.lst [(.tup [])]) (-0))) (.seq (.fr (.v 2) .rng1 (c1 (.bf .len (c1 (.idx v0 n1)))) (s1 (.set (.v 1) (.bin .add v1 (.comp 1 [2] (.v 0) .seq (c1 v1) .nil (.bin .add v0 (.tup (c1 v1)))))))) (s1 (.ret (.bf .sorted (c1 v1))))))
def r50:Sm:=(s1 (.ret (.bf .tuple (c1 (.comp 1 [1] (.v 0) .rng1 (c1 (.bf .len (c1 (.idx v0 n1)))) (c1 (.cmp .nmem v0 v1)) v0)))))
def m50:Sm:=(s1 (.ret (.comp 1 [0] (.v 0) .rng1 (c1 (.bf .len (c1 v0))) .nil (.bin .add (.sl v1 .nil (c1 v0)) (.sl v1 (c1 (.bin .add v0 n1)) .nil)))))
def B10:Sm:=(.seq (.set (.v 1) (.dkeys v0)) (s1 (.ret (.comp 1 [1] (.v 0) .seq (c1 v0) (c1 (.not (.bf .any (c1 (.comp 1 [1] (.v 0) .seq (c1 (.call u30 (c1 v0))) .nil (.memk true v0 1)))))) v0))))
def w10:Sm:=(.seq (.exp (.call h90 (c1 v0))) (.seq (.exp (.call d80 (c2 v0 v1))) (s1 (.ret (.comp 1 [0,1] (.v 0) .seq (c1 (.call M10 (c1 v0))) (c1 (.call f80 (c3 v1 v0 v2))) v0)))))
def r60:Sm:=(s1 (.ret (.call M20 (c1 (.call k70 (c2 v0 v1))))))
def I50:Sm:=(s1 (.ret (.bf .sum (c1 (.comp 1 [] (.v 0) .seq (c1 v0) .nil (.bin .shl n1 v0))))))
def B20:Sm:=(s1 (.ret (.tup (c2 (.call y40 (c1 (.idx v0 n0))) (.call y40 (c1 (.idx v0 n1)))))))
def I60:Sm:=(.seq (.iff (.or (.not (.isi .tuple v2)) (.cmp .ne (.bf .len (c1 v2)) n2)) (s1 (.ret (.con (.bl false)))) .nil) (.seq (.iff (.or (.not (.call Q80 (c2 v0 (.idx v2 n0)))) (.not (.call Q80 (c2 v0 (.idx v2 n1))))) (s1 (.ret (.con (.bl false)))) .nil) (.seq (.set (p2 (.v 3) (.v 4)) (.call A70 (c1 v2))) (s1 (.ret (.and (.cmp .eq (.bin .band v3 v4) n0) (.call f80 (c3 v0 (.idx v2 n0) v1))))))))
def r70:Sm:=(s1 (.ret (.or (.cmp .gt (.bin .band (.idx v0 n0) (.idx v1 n1)) n0) (.cmp .gt (.bin .band (.idx v1 n0) (.idx v0 n1)) n0))))
def k90:Sm:=(.seq (.fr (p2 (.v 1) (.v 2)) .enum (c1 v0) (s1 (.iff (.not (.bf .all (c1 (.comp 1 [2] (.v 0) .seq (c1 (.sl v0 .nil (c1 v1))) .nil (.call C50 (c2 v1 v0)))))) (s1 (.ret (.con (.bl false)))) .nil))) (s1 (.ret (.con (.bl true)))))
def m60:Sm:=(s1 (.ret (.bf .any (c1 (.comp 2 [0] (p2 (.v 0) (.v 1)) .seq (c1 v1) .nil (.and (.cmp .eq (.bin .band v2 v0) v0) (.cmp .eq (.bin .band v2 v1) n0)))))))
def l00:Sm:=(.seq (.exp (.call h90 (c1 v0))) (.seq (.exp (.call d80 (c2 v0 v1))) (.seq (.iff (.or (.not (.isi .tuple v2)) (.not (.bf .all (c1 (.comp 1 [0,1] (.v 0) .seq (c1 v2) .nil (.call Y50 (c3 v1 v2 v0))))))) (s1 (.ret (.con (.bl false)))) .nil) (.seq (.set (.v 3) (.comp 1 [] (.v 0) .seq (c1 v2) .nil (.call A70 (c1 v0)))) (.seq (.iff (.or (.not (.call Q70 (c1 v2))) (.not (.call r00 (c1 v3)))) (s1 (.ret (.con (.bl false)))) .nil) (s1 (.ret (.bf .all (c1 (.comp 1 [3] (.v 0) .seq (c1 (.call k70 (c2 v0 v1))) .nil (.call u40 (c2 (.call y40 (c1 v0)) v1))))))))))))
def n70:Sm:=(.seq (.iff (.cmp .eq (.idx v0 n0) (.con (.str "yes"))) (s1 (.ret (.lst (c1 (.tup (c2 (.bf .tuple (c1 (.bf .sorted (c1 v1)))) (.bf .tuple (c1 (.bf .sorted (c1 v2)))))))))) .nil) (.seq (.iff (.cmp .eq (.idx v0 n0) (.con (.str "no"))) (s1 (.ret (.lst .nil))) .nil) (.seq (.set (.tup (.cons (.v 3) (.cons (.v 4) (.cons (.v 5) .nil)))) (.sl v0 (c1 n1) .nil)) (s1 (.ret (.bin .add (.call e70 (c3 v4 (.bin .add v1 (.tup (c1 v3))) v2)) (.call e70 (c3 v5 v1 (.bin .add v2 (.tup (c1 v3)))))))))))
def r80:Sm:=(s1 (.ret (.bf .tuple (c1 (.bf .sorted (c1 (.call e70 (c3 (.call C30 (c2 v0 v1)) (.tup .nil) (.tup .nil)))))))))
def r90:Sm:=(.seq (.set (.v 2) (.comp 1 [0] (.v 0) .seq (c1 (.idx v1 n0)) .nil (.idx v1 v0))) (s1 (.ret (.call Y40 (c1 (.bin .add v2 (.comp 1 [0] (.v 0) .seq (c1 (.idx v1 n1)) .nil (.call Z11 (c1 (.idx v1 v0))))))))))
def s00:Sm:=(.seq (.exp (.call k60 (c2 v0 v1))) (.seq (.exp (.call d80 (c2 v0 v2))) (.seq (.iff (.not (.call g70 (c3 v0 v2 v3))) (s1 (.rais 7)) .nil) (.seq (.set (.v 4) (cX (.tup [(.int 0),(.int 1)]) (-0))) (.seq (.fr (.v 5) .seq (c1 v3) (s1 (.set (.v 4) (.call Z01 (c2 v4 (.call C70 (c2 v1 v5))))))) (s1 (.ret v4)))))))
def j30:Sm:=(.seq (.set (.v 3) (.bf .tuple (c1 (.comp 1 [2] (.v 0) .seq (c1 v1) (c1 (.cmp .lt v0 v1)) v0)))) (s1 (.ret (.not (.call f80 (c3 v0 v3 (.idx (.idx v0 n1) v2)))))))
def w20:Sm:=(.seq (.set (.v 2) (.call C40 (c2 v0 v1))) (s1 (.ret (.tup (c2 v1 (.bf .tuple (c1 (.comp 1 [0,1] (.v 0) .seq (c1 v2) (c1 (.call p80 (c3 v1 v2 v0))) v0))))))))
def o90:Sm:=(.seq (.exp (.call h90 (c1 v0))) (s1 (.ret (.bf .tuple (c1 (.comp 1 [0] (.v 0) .seq (c1 (.call q90 (c2 v0 (.call C20 (c1 v0))))) .nil (.call I30 (c2 v1 v0))))))))
def p00:Sm:=(.seq (.set (.v 1) n1) (.seq (.fr (.v 2) .seq (c1 v0) (s1 (.aug .mul 1 (.idx v2 n1)))) (s1 (.ret v1))))
def I70:Sm:=(.seq (.set (.v 2) n1) (.seq (.fr (p2 (.v 3) (p2 (.v 4) (.v 5))) .enum (c1 v0) (s1 (.aug .mul 2 (.ite (.cmp .mem v3 v1) v4 (.bin .sub v5 v4))))) (s1 (.ret v2))))
def s10:Sm:=(s1 (.ret (.call E80 (c2 (.bf .sum (c1 (.comp 1 [0] (.v 0) .seq (c1 v1) .nil (.call Y60 (c2 v1 v0))))) (.call y60 (c1 v0))))))
def f71:Sm:=(.seq (.exp (.call k60 (c2 v0 v1))) (.seq (.exp (.call d80 (c2 v0 v2))) (s1 (.ret (.call r10 (c2 v1 (.call k70 (c2 v0 v2))))))))
def i20:Sm:=(.seq (.iff (.cmp .lt v1 (.bf .len (c1 v0))) (s1 (.ret (.idx v0 v1))) .nil) (s1 (.ret n0)))
def l90:Sm:=(.seq (.set (.v 2) (.call u50 (c2 v0 v1))) (.seq (.iff (.cmp .ge v2 (.bin .pow (.con (.int 10)) (.con (.int 18)))) (s1 (.ret (.lst (c2 (.bin .sub v2 (.bin .pow (.con (.int 10)) (.con (.int 18)))) (.con (.bl true)))))) .nil) (s1 (.ret (.lst (c2 (.bin .mod v2 (.con (.int 2147483647))) (.con (.bl false))))))))
def w30:Sm:=(.seq (.iff (.zget 0 1) (.seq (.set (.v 2) (.bin .mod (.zget 0 0) v1)) (.seq (.zset 0 (.bin .fdiv (.zget 0 0) v1)) (s1 (.ret v2)))) .nil) (.seq (.zset 0 (.bin .mod (.bin .add (.bin .mul (.zget 0 0) (.con (.int 48271))) (.con (.int 29))) (.con (.int 2147483647)))) (.seq (.set (.v 3) (.bin .mod (.bin .add (.bin .add (.bin .mul (.zget 0 0) (.zget 0 0)) (.bin .mul (.con (.int 39373)) (.zget 0 0))) (.con (.int 7))) (.con (.int 2147483629)))) (.seq (.set (.v 3) (.bin .mod (.bin .add (.bin .mul v3 v3) (.bin .mul (.con (.int 16807)) v3)) (.con (.int 2147483587)))) (s1 (.ret (.bin .mod (.bin .fdiv v3 (.con (.int 8))) v1)))))))
def s20:Sm:=(.seq (.set (.v 2) (.lrng false (c1 v1))) (.seq (.set (.v 3) (.lst .nil)) (.seq (.whl (.cmp .ne v2 (.lst .nil)) (s1 (.apop 3 2 (.call b30 (c2 v0 (.bf .len (c1 v2))))))) (s1 (.ret (.bf .tuple (c1 v3)))))))
def B30:Sm:=(.seq (.set (.v 2) (.idx (cX (.lst [(.int 5),(.int 4),(.int 6),(.int 3),(.int 4),(.int 2),(.int 6),(.int 1)]) (-0)) (.call b30 (c2 v0 (.con (.int 8)))))) (.seq (.set (.v 3) (.call C90 (c2 v0 v2))) (.seq (.set (.v 4) (.call b30 (c2 v0 (.con (.int 6))))) (.seq (.set (.v 5) (.lst .nil)) (.seq (.fr (.v 6) .rng2 (c2 n1 v2) (s1 (.app 5 (.tup (c2 (.idx v3 v6) (.idx v3 (.idx (.lst (.cons (.bin .sub v6 n1) (c5 (.bin .sub v6 n1) n0 (.bin .fdiv v6 n2) (.bin .sub v6 n1) n0))) v4))))))) (.seq (.iff (.and (.cmp .eq v4 n0) (.cmp .gt v2 n2)) (s1 (.app 5 (.tup (c2 (.idx v3 n0) (.idx v3 (.bin .sub v2 n1)))))) .nil) (.seq (.iff (.cmp .eq v4 (.con (.int 4))) (s1 (.set (.v 5) (.sl v5 (c1 n1) .nil))) .nil) (.seq (.fr (.v 7) .rng1 (c1 (.call b30 (c2 v0 (.con (.int 5))))) (.seq (.set (p2 (.v 8) (.v 9)) (.tup (c2 (.call b30 (c2 v0 v2)) (.call b30 (c2 v0 v2))))) (s1 (.iff (.cmp .ne v8 v9) (s1 (.app 5 (.tup (c2 v8 v9)))) .nil)))) (.seq (.iff (.and (.cmp .ne v5 (.lst .nil)) (.cmp .eq (.call b30 (c2 v0 (.con (.int 3)))) n0)) (s1 (.app 5 (.idx v5 (.call b30 (c2 v0 (.bf .len (c1 v5))))))) .nil) (.seq (.set (.v 5) (.sl v5 .nil (c1 v1))) (s1 (.ret (.tup (c2 v2 (.bf .tuple (c1 (.bf .sorted (c1 (.comp 2 [] (p2 (.v 0) (.v 1)) .seq (c1 v5) .nil (.tup (c2 (.bf .min (c2 v0 v1)) (.bf .max (c2 v0 v1)))))))))))))))))))))))
def p10:Sm:=(.seq (.set (.v 2) (.bf .tuple (c1 (.comp 1 [0] (.v 0) .rng1 (c1 (.idx v1 n0)) (c1 (.cmp .eq (.call b30 (c2 v1 n2)) n0)) v0)))) (s1 (.ret (.idx (.lst (c3 (.orT v2 (cX (.tup [(.int 0)]) (-0))) (.lrng true (c1 (.idx v1 n0))) (.orT v2 (.tup (c1 (.bin .sub (.idx v1 n0) n1)))))) (.call b30 (c2 v0 (.con (.int 3))))))))
def m70:Sm:=(.seq (.set (p2 (.v 2) (.v 3)) (.tup (c2 (.bf .abs (c1 v0)) v1))) (.seq (.whl (.cmp .ne v3 n0) (s1 (.set (p2 (.v 2) (.v 3)) (.tup (c2 v3 (.bin .mod v2 v3)))))) (s1 (.ret (.tup (c2 (.bin .fdiv v0 v2) (.bin .fdiv v1 v2)))))))
def p20:Sm:=(.seq (.set (.v 1) (.call b30 (c2 v0 (.con (.int 8))))) (.seq (.iff (.cmp .lt v1 n2) (s1 (.ret (.idx (cX (.lst [(.tup [(.int 0),(.int 1)]),(.tup [(.int 1),(.int 1)])]) (-0)) v1))) .nil) (.seq (.set (.v 2) (.idx (.lst (.cons n2 (c5 (.con (.int 3)) (.con (.int 4)) (.bin .add n1 (.call b30 (c2 v0 (.con (.int 12))))) (.bin .add n1 (.call b30 (c2 v0 (.con (.int 1000))))) (.con (.int 1000))))) (.bin .sub v1 n2))) (s1 (.ret (.call u60 (c2 (.call b30 (c2 v0 (.bin .add v2 n1))) v2)))))))
def m80:Sm:=(s1 (.ret (.bf .tuple (c1 (.comp 1 [0] (.v 0) .seq (c1 (.idx v1 n1)) .nil (.call y80 (c1 v1)))))))
def g80:Sm:=(.seq (.set (.v 2) (.lrng true (c1 (.idx v0 n0)))) (.seq (.set (.v 3) (.call y50 (c1 v0))) (.seq (.iff (.or (.cmp .isnt (.call g70 (c3 v0 v2 v3)) (.con (.bl true))) (.cmp .ne (.comp 2 [] (p2 (.v 0) (.v 1)) .seq (c1 v3) .nil v0) (.call q90 (c2 v0 v2)))) (s1 (.ret (.con (.bl false)))) .nil) (.seq (.iff (.cmp .ne (.call l70 (c4 v0 v1 v2 v3)) (.call f51 (c3 v0 v1 v2))) (s1 (.ret (.con (.bl false)))) .nil) (.seq (.set (.v 4) n0) (.seq (.fr (p2 (.v 5) (.v 6)) .seq (c1 v3) (s1 (.set (.v 4) (.bin .add v4 (.bin .shl n1 (.bin .sub (.bin .sub (.bf .len (c1 (.idx v0 n1))) (.bf .len (c1 v5))) (.bf .len (c1 v6)))))))) (s1 (.ret (.cmp .eq v4 (.bf .len (c1 (.call k70 (c2 v0 v2)))))))))))))
def l62:Sm:=(.seq (.fr (.v 1) .rng1 (c1 (.bf .max (c2 n1 (.bf .min (c2 (.bf .len (c1 v0)) (.con (.int 5))))))) (.seq (.newz 2 C80 (c2 v0 v1)) (.seq (.set (.v 3) (.call M30 (c2 v2 (.idx (cX (.lst [(.int 5),(.int 8)]) (-0)) (.bf .int (c1 (.cmp .eq v1 n0))))))) (.seq (.set (p2 (.v 4) (.v 5)) (.tup (c2 (.call y70 (c2 v2 v3)) (.call u70 (c2 v2 v3))))) (.seq (.set (.v 6) (.call C60 (c2 v3 v4))) (.seq (.iff (.or (.cmp .isnt (.call g70 (c3 v3 v4 v6)) (.con (.bl true))) (.not (.call l80 (c2 v3 v5)))) (s1 (.ret (.con (.bl false)))) .nil) (.seq (.iff (.cmp .ne (.call l70 (c4 v3 v5 v4 v6)) (.call f51 (c3 v3 v5 v4))) (s1 (.ret (.con (.bl false)))) .nil) (.seq (.set (.v 7) (.bf .tuple (c1 (.comp 1 [2] (.v 0) .seq (c1 (.idx v3 n1)) .nil (.idx (cX (.lst [(.tup [(.int 0),(.int 1)]),(.tup [(.int 1),(.int 1)])]) (-0)) (.call b30 (c2 v1 n2))))))) (s1 (.iff (.cmp .nmem (.call l70 (c4 v3 v7 v4 v6)) (cX (.lst [(.tup [(.int 0),(.int 1)]),(.tup [(.int 1),(.int 1)])]) (-0))) (s1 (.ret (.con (.bl false)))) .nil)))))))))) (s1 (.ret (.con (.bl true)))))
def rows:List Row:=[(⟨"common_divisor",["one","other"],top 7,["one","other"],j20,false⟩:Row),
 (⟨"lowest",["top","bottom"],top 8,["top","bottom","divisor"],Q90,false⟩:Row),
 (⟨"plus",["one","other"],top 9,["one","other"],F61,false⟩:Row),
 (⟨"times",["one","other"],top 10,["one","other"],f61,false⟩:Row),
 (⟨"product",["fractions"],top 11,["fractions","found","one"],I40,false⟩:Row),
 (⟨"lack",["one"],top 12,["one"],F71,false⟩:Row),
 (⟨"is_whole",["thing"],top 16,["thing"],M40,false⟩:Row),
 (⟨"is_below",["thing","many"],top 17,["thing","many"],A80,false⟩:Row),
 (⟨"is_tie",["thing","many"],top 18,["thing","many","a","b"],R00,false⟩:Row),
 (⟨"are_ties",["thing","many"],top 19,["thing","many"],A90,false⟩:Row),
 (⟨"is_web",["thing"],top 20,["thing","many","ties"],R10,false⟩:Row),
 (⟨"rises",["things"],top 21,["things"],R20,false⟩:Row),
 (⟨"is_rising_below",["thing","many"],top 22,["thing","many"],i00,false⟩:Row),
 (⟨"is_lot",["web","thing"],top 23,["web","thing"],R30,false⟩:Row),
 (⟨"check_web",["thing"],top 24,["thing"],v80,false⟩:Row),
 (⟨"check_places",["web","thing"],top 25,["web","thing"],m40,false⟩:Row),
 (⟨"all_places",["web"],top 26,["web"],r20,false⟩:Row),
 (⟨"marks_by",["web","lot"],top 27,["web","lot","many","ties","marks","number","a","b","kept","gone"],B00,false⟩:Row),
 (⟨"are_joined",["web","lot","places"],top 28,["web","lot","places","marks"],r30,false⟩:Row),
 (⟨"is_chance",["thing"],top 31,["thing","top","bottom"],v90,false⟩:Row),
 (⟨"are_chances",["web","thing"],top 32,["web","thing"],o80,false⟩:Row),
 (⟨"check_chances",["web","thing"],top 33,["web","thing"],k80,false⟩:Row),
 (⟨"taken_out",["left","number"],top 35,["left","number"],w00,false⟩:Row),
 (⟨"paper_for",["web","places","held","left"],top 36,["web","places","held","left","number","one","other"],f50,false⟩:Row),
 (⟨"case_paper",["web","places"],top 37,["web","places"],r40,false⟩:Row),
 (⟨"all_lots",["web"],top 39,["web","lots","number"],t10,false⟩:Row),
 (⟨"other_ties",["web","lot"],top 40,["web","lot"],r50,false⟩:Row),
 (⟨"one_left_out",["lot"],top 41,["lot"],m50,false⟩:Row),
 (⟨"least_of",["lots"],top 42,["lots","known"],B10,false⟩:Row),
 (⟨"good_lots",["web","places"],top 43,["web","places"],w10,false⟩:Row),
 (⟨"least_good",["web","places"],top 44,["web","places"],r60,false⟩:Row),
 (⟨"mask_of",["lot"],top 46,["lot"],I50,false⟩:Row),
 (⟨"masks_of",["pair"],top 47,["pair"],B20,false⟩:Row),
 (⟨"is_pair",["web","places","thing"],top 48,["web","places","thing","held","not_held"],I60,false⟩:Row),
 (⟨"is_between",["one","other"],top 49,["one","other"],r70,false⟩:Row),
 (⟨"are_all_apart",["pairs"],top 50,["pairs","at","one"],k90,false⟩:Row),
 (⟨"is_stood_for",["mask","pairs"],top 51,["mask","pairs"],m60,false⟩:Row),
 (⟨"is_once_paper",["web","places","thing"],top 52,["web","places","thing","pairs"],l00,false⟩:Row),
 (⟨"yes_ends",["paper","held","not_held"],top 53,["paper","held","not_held","number","one","other"],n70,false⟩:Row),
 (⟨"once_paper",["web","places"],top 54,["web","places"],r80,false⟩:Row),
 (⟨"pair_shows",["chances","pair"],top 55,["chances","pair","held"],r90,false⟩:Row),
 (⟨"once_shows",["web","chances","places","paper"],top 56,["web","chances","places","paper","found","pair"],s00,false⟩:Row),
 (⟨"is_passed_over",["web","tree","number"],top 57,["web","tree","number","lesser"],j30,false⟩:Row),
 (⟨"tree_pair",["web","tree"],top 58,["web","tree","others"],w20,false⟩:Row),
 (⟨"trees_paper",["web"],top 59,["web"],o90,false⟩:Row),
 (⟨"all_bottoms",["chances"],top 61,["chances","found","chance"],p00,false⟩:Row),
 (⟨"lot_top",["chances","lot"],top 62,["chances","lot","found","number","top","bottom"],I70,false⟩:Row),
 (⟨"lots_share",["chances","lots"],top 63,["chances","lots"],s10,false⟩:Row),
 (⟨"share",["web","chances","places"],top 64,["web","chances","places"],f71,false⟩:Row),
 (⟨"_law_cell_at",["_law_script","_law_k"],top 66,["_law_script","_law_k"],i20,false⟩:Row),
 (⟨"_law_state",["_law_script","_law_k"],top 67,["_law_script","_law_k","_law_cell"],l90,false⟩:Row),
 (⟨"_law_take",["_law_state_here","_law_many"],top 68,["_law_state_here","_law_many","_law_found","_law_stirred"],w30,false⟩:Row),
 (⟨"_law_mixed",["_law_state_here","_law_many"],top 69,["_law_state_here","_law_many","_law_left","_law_found"],s20,false⟩:Row),
 (⟨"_law_web",["_law_state_here","_law_most"],top 70,["_law_state_here","_law_most","_law_many","_law_names","_law_way","_law_ties","_law_at","_law_turn","_law_one","_law_other"],B30,false⟩:Row),
 (⟨"_law_places",["_law_state_here","_law_web_here"],top 71,["_law_state_here","_law_web_here","_law_some"],p10,false⟩:Row),
 (⟨"_law_divided",["_law_top","_law_bottom"],top 72,["_law_top","_law_bottom","_law_one","_law_other"],m70,false⟩:Row),
 (⟨"_law_chance",["_law_state_here"],top 73,["_law_state_here","_law_way","_law_bottom"],p20,false⟩:Row),
 (⟨"_law_chances",["_law_state_here","_law_web_here"],top 74,["_law_state_here","_law_web_here"],m80,false⟩:Row),
 (⟨"_law_trees_right",["_law_web_here","_law_chances_here"],top 75,["_law_web_here","_law_chances_here","_law_places_here","_law_paper","_law_stood","_law_tree","_law_lacking"],g80,false⟩:Row),
 (⟨"law",["_law_script"],top 76,["_law_script","_law_k","_law_state_here","_law_web_here","_law_places_here","_law_chances_here","_law_paper","_law_sure"],l62,false⟩:Row)]
def T:List Df:=[(Df.code 2 2 j20:Df),(Df.code 2 3 Q90:Df),(Df.code 2 2 F61:Df),(Df.code 2 2 f61:Df),(Df.code 1 3 I40:Df),(Df.code 1 1 F71:Df),(Df.code 1 1 M40:Df),(Df.code 2 2 A80:Df),(Df.code 2 4 R00:Df),(Df.code 2 2 A90:Df),(Df.code 1 3 R10:Df),(Df.code 1 1 R20:Df),(Df.code 2 2 i00:Df),(Df.code 2 2 R30:Df),(Df.code 1 1 v80:Df),(Df.code 2 2 m40:Df),(Df.code 1 1 r20:Df),(Df.code 2 10 B00:Df),(Df.code 3 4 r30:Df),(Df.code 1 3 v90:Df),(Df.code 2 2 o80:Df),(Df.code 2 2 k80:Df),(Df.code 2 2 w00:Df),(Df.code 4 7 f50:Df),(Df.code 2 2 r40:Df),(Df.code 1 3 t10:Df),(Df.code 2 2 r50:Df),(Df.code 1 1 m50:Df),(Df.code 1 2 B10:Df),(Df.code 2 2 w10:Df),(Df.code 2 2 r60:Df),(Df.code 1 1 I50:Df),(Df.code 1 1 B20:Df),(Df.code 3 5 I60:Df),(Df.code 2 2 r70:Df),(Df.code 1 3 k90:Df),(Df.code 2 2 m60:Df),(Df.code 3 4 l00:Df),(Df.code 3 6 n70:Df),(Df.code 2 2 r80:Df),(Df.code 2 3 r90:Df),(Df.code 4 6 s00:Df),(Df.code 3 4 j30:Df),(Df.code 2 3 w20:Df),(Df.code 1 1 o90:Df),(Df.code 1 3 p00:Df),(Df.code 2 6 I70:Df),(Df.code 2 2 s10:Df),(Df.code 3 3 f71:Df),(Df.code 2 2 i20:Df),(Df.code 2 3 l90:Df),(Df.code 2 4 w30:Df),(Df.code 2 4 s20:Df),(Df.code 2 10 B30:Df),(Df.code 2 3 p10:Df),(Df.code 2 4 m70:Df),(Df.code 1 3 p20:Df),(Df.code 2 2 m80:Df),(Df.code 2 7 g80:Df),(Df.code 1 8 l62:Df)]
theorem b73:tabOf rows=T:=rfl
def cn:List Str:=["NoWeb","NoWeb","NoPlaces","NoWeb","NoWeb","NoWeb","NoChances","NoPaper","NoWeb","NoWeb","NoWeb","NoWeb"]
end K3
namespace K3
open Q
open L2 (D)
def D72:D->Bool
 |.int _=>true|_=>false
theorem p30(k:Nat)(x:D)(z:Z):a70 T (k + 3) n60 [.d x] z=some (.ok (.d (.bl (D72 x))) z):=by
 cases z <;> cases x <;> rfl
def d40(x:D)(m:Int):Bool:=match x with
 |.int i=>decide (0<=i)&&decide (i < m)|_=>false
theorem w40(k:Nat)(x:D)(m:Int)(z:Z):a70 T (k + 4) t00 [.d x,.d (.int m)] z=some (.ok (.d (.bl (d40 x m))) z):=by
 refine W.ok (f40 (ps:=2) (ns:=2) (b:=A80) rfl rfl (-0) (Wo (p30 (k:=k) x z) ?_))
 cases x with
 |int i=>exact ib (b:=decide (0<=i)) (λh=>sb (show decide (i < m)=(decide (0<=i)&&decide (i < m)) by rw[h];rfl)) λh=>sb (show false=(decide (0<=i)&&decide (i < m)) by rw[h];rfl)|_=>exact sb rfl
def F81(x:D)(m:Int):Bool:=match x with
 |.tup [a,b]=>d40 a m&&(d40 b m&&(match a,b with
  |.int i,.int j=>decide (i < j)
  |_,_=>false))
 |_=>false
theorem n80(h:d40 x m=true):∃ i,x=.int i/\0<=i/\i < m:=by
 cases x with
 |int i =>
  unfold d40 at h;rw[À,decide_eq_true_eq,decide_eq_true_eq] at h;exact⟨i,rfl,h⟩
 |_=>cases h
theorem F91(k:Nat)(x:D)(m:Int)(z:Z):a70 T (k + 5) l71 [.d x,.d (.int m)] z=some (.ok (.d (.bl (F81 x m))) z):=by
 refine W.ok (f40 (ps:=2) (ns:=4) (b:=R00) rfl rfl (-0) ?_)
 cases x with
 |tup l =>
  match l with
  |[a,b] =>
   refine Wo (w40 k a m z) (ib (b:=d40 a m) (λh1=>Wo (w40 k b m z) (ib (b:=d40 b m) (λh2=>?_) λh=>?_)) λh=>?_)
   ·obtain⟨i,rfl,_⟩:=n80 h1;obtain⟨j,rfl,_⟩:=n80 h2;exact sb (show decide (i < j)=(d40 (.int i) m&&(d40 (.int j) m&&decide (i < j))) by rw[h1,h2];rfl)
   ·exact sb (show false=(d40 a m&&(d40 b m&&_)) by rw[h1,h];rfl)
   ·exact sb (show false=(d40 a m&&_) by rw[h];rfl)
  |[]=>exact sb rfl|[_]=>exact sb rfl|_::_::_::_=>exact sb rfl
 |_=>exact sb rfl
theorem u80(l:List D)(p:D->Bool):bfD .all [.lst (l.map λx=>D.bl (p x))]=some (.d (.bl (l.all p))):=by
 have h:(l.map λx=>D.bl (p x)).mapM asB=some (l.map p):=by
  induction l with
  |nil=>rfl
  |cons x r ih =>
   rw[È1,Õ2,ih];rfl
 show((l.map λx=>D.bl (p x)).mapM asB).map _=_;rw[h];simp[all_map]
theorem t20(l:List D)(n:Nat):cutD l (some (n:Int)) none=l.drop n:=by
 have h1:HT.sIx l.length 0 (some (n:Int))=min n l.length:=HT.w11 l.length 0 n;unfold cutD;rw[h1];show((l.drop (min n l.length)).take (l.length - min n l.length))=_;rcases Nat.le_total n l.length with h | h
 ·rw[Nat.min_eq_left h,È7 (by rw[Ë0];omega)]
 ·rw[Nat.min_eq_right h,drop_length,List.take_nil,List.drop_of_length_le h]
theorem E90:∀ a b:List D,(A60 a b).length<=a.length
 |[],_=>Ê _|_::_,[]=>Æ6 _|_::r,_::q=>Ú3 (E90 r q)
theorem f81:∀ {a b:List D}{d:D},d∈A60 a b->∃ x∈a,∃ y∈b,d=.tup [x,y]
 |x::r,y::q,d,h=>by
  rcases à.mp h with h | h
  ·exact⟨x,Ç,y,Ç,h⟩
  ·obtain⟨u,hu,v,hv,e⟩:=f81 h;exact⟨u,É _ hu,v,É _ hv,e⟩
def leD:D->Bool
 |.tup [.tup a,.tup b]=>(match A50 a,A50 b with
  |some ns,some ms=>HT.leB ns ms
  |_,_=>false)
 |_=>false
def Y70(l:List D):Bool:=(A60 l (l.drop 1)).all leD
def Y80(x:D)(m:Int):Bool:=match x with
 |.tup l=>decide (l.length<=8)&&(l.all (λt=>F81 t m)&&Y70 l)|_=>false
theorem Y90(h:F81 x m=true):∃ i j,x=.tup [.int i,.int j]/\0<=i/\i < j/\j < m:=by
 cases x with
 |tup l =>
  match l,h with
  |[a,b],h =>
   unfold F81 at h;rw[À,À] at h;obtain⟨h1,h2,h3⟩:=h;obtain⟨i,rfl,i1,i2⟩:=n80 h1;obtain⟨j,rfl,j1,j2⟩:=n80 h2;exact⟨i,j,rfl,i1,of_decide_eq_true h3,j2⟩
 |_=>cases h
theorem h40(h:n<=1000):n<=most:=Ù h (-0)
theorem f91(k:Nat)(x:D)(m:Int)(z:Z):a70 T (k + 6) L90 [.d x,.d (.int m)] z=some (.ok (.d (.bl (Y80 x m))) z):=by
 refine W.ok (f40 (ps:=2) (ns:=2) (b:=A90) rfl rfl (-0) ?_)
 cases x with
 |tup l =>
  refine ib (b:=decide ((8:Int) < (l.length:Int))) (λh=>?_) λh=>?_
  ·refine sb (show false=(decide (l.length<=8)&&_) from ?_);rw[decide_eq_true_eq] at h;rw[decide_eq_false ∅];rfl
  ·rw[decide_eq_false_iff_not] at h;have h8:l.length<=8:=by omega
   refine ip (h40 ∅) (I00 (λx=>.bl (F81 x m)) (λx _=>Wo (F91 k x m z) ⟨rfl,rfl⟩) ?_)
   refine(a00 (u80 l λx=>F81 x m) ?_ :);refine ib (b:=!l.all λx=>F81 x m) (λh=>?_) λh2=>?_
   ·exact sb (show false=(decide (l.length<=8)&&(l.all (λt=>F81 t m)&&Y70 l)) by rw[á] at h;rw[h,Å5,Ë4])
   ·rw[Ð9] at h2;have ha:=ä.mp h2;have e1:cutD l (some 1) none=l.drop 1:=t20 l 1;refine ip (c:=(A60 l (cutD l (some 1) none)).length<=most) (Ù (E90 _ _) (h40 ∅)) (I00 (λx=>.bl (leD x)) (λx hx=>?_) (a00 (u80 _ leD) ?_ :))
    ·obtain⟨u,hu,v,hv,rfl⟩:=f81 hx;rw[e1] at hv;obtain⟨i,j,rfl,_⟩:=Y90 (ha u hu);obtain⟨i',j',rfl,_⟩:=Y90 (ha v (Ó3 hv));exact⟨rfl,rfl⟩
    ·refine sb (b:=(A60 l (cutD l (some 1) none)).all leD) ?_;show _=(decide (l.length<=8)&&(l.all (λt=>F81 t m)&&Y70 l));rw[e1,h2,decide_eq_true h8,Ä0,Ä0];rfl
 |_=>exact sb rfl
def Q82(a t:D):Bool:=match a with
 |.int m=>decide (1<=m)&&(decide (m<=6)&&Y80 t m)|_=>false
def S11(x:D):Bool:=match x with
 |.tup [a,t]=>Q82 a t|_=>false
theorem G01(k:Nat)(x:D)(z:Z):a70 T (k + 7) l81 [.d x] z=some (.ok (.d (.bl (S11 x))) z):=by
 refine W.ok (f40 (ps:=1) (ns:=3) (b:=R10) rfl rfl (-0) ?_)
 cases x with
 |tup l =>
  match l with
  |[a,t] =>
   refine Wo (p30 (k + 3) a _) ?_;cases a with
   |int m =>
    refine ib (b:=decide (1<=m)) (λg1=>ib (b:=decide (m<=6)) (λg2=>Wo (f91 k t m _) ?_) λg2=>?_) λg1=>?_
    ·exact sb (show Y80 t m=(decide (1<=m)&&(decide (m<=6)&&Y80 t m)) by rw[g1,g2];rfl)
    ·exact sb (show false=(decide (1<=m)&&(decide (m<=6)&&Y80 t m)) by rw[g1,g2];rfl)
    ·exact sb (show false=(decide (1<=m)&&(decide (m<=6)&&Y80 t m)) by rw[g1];rfl)
   |_=>exact sb rfl
  |[]=>exact sb rfl|[_]=>exact sb rfl|_::_::_::_=>exact sb rfl
 |_=>exact sb rfl
theorem i60(k:Nat)(z:Z)(h:S11 x=true):a70 T (k + 8) h90 [.d x] z=some (.ok (.d .non) z) :=
 W.ok (f40 (ps:=1) (ns:=1) (b:=v80) rfl rfl (-0) (Wo (G01 k x z) (ie (b:=!S11 x) (by rw[h];rfl) (sd rfl))))
theorem S21(hj:0 < j):C00 .mod (.int i) (.int j)=some (.d (.int (i % j))):=by
 show(if 0 < j then some (S.d (.int (i % j))) else none)=_;rw[if_pos hj]
def GT(n:Nat)(a b:Int):Prop:=0<=b/\((∃ k:Nat,n=2 * k + 1/\b < 2 ^ k)∨∃ k:Nat,n=2 * k/\b < a/\a < 2 ^ k)
theorem GT.step(h:GT n a b)(hb:0 < b):∃ m,m < n/\GT m b (a % b):=by
 obtain⟨h0,h⟩:=h;have r0:=emod_nonneg a (show b≠0 by omega)
 have r1:=emod_lt_of_pos a hb;rcases h with ⟨k,rfl,hk⟩ | ⟨k,rfl,hba,hk⟩
 ·exact⟨2 * k,Ú4 _,r0,.inr ⟨k,rfl,r1,hk⟩⟩
 ·cases k with
  |zero=>simp at hk;omega
  |succ k =>
   refine⟨2 * k + 1,by omega,r0,.inl ⟨k,rfl,?_⟩⟩
   have e:=Int.emod_add_mul_ediv a b;have q1:1<=a / b:=Int.le_ediv_of_mul_le hb ∅
   have:b * 1<=b * (a / b):=Á6 q1 ∅
   have h2:(2:Int) ^ (k + 1)=2 * 2 ^ k:=by rw[Int.pow_succ,Â3]
   rw[h2] at hk;omega
theorem G11(a b:Int):gcd b (a % b)=gcd a b:=by
 rw[Int.emod_def,Int.gcd_sub_mul_left_right,gcd_comm]
def big(b:Int):Prop:=b < 2 ^ 4000
theorem g01(h0:0<=b)(h:big b):b.natAbs < d21:=by
 have h:b < 2 ^ 4000:=h;have e:((2 ^ 4000:Nat):Int)=2 ^ 4000:=by rw[Ð1];rfl
 show b.natAbs < 2 ^ 4000;omega
theorem y90(h:b<=2 ^ 64):big b:=Ø1 h (-0)
theorem n90(k:Nat)(a b:Int)(z:Z)(h0:0 < b)(h1:big b):a70 T (k + 3) j10 [.d (.int a),.d (.int b)] z=some (.ok (.d (.int (gcd a b))) z):=by
 refine W.ok (f40 (ps:=2) (ns:=2) (b:=j20) rfl rfl (-0) (l32 (λn ρ z1=>z1=z/\∃ c d:Int,ρ=[some (.d (.int c)),some (.d (.int d))]/\GT n c d/\gcd c d=gcd a b/\(d=0->0<=c)) (2 * 4000 + 1) ⟨rfl,a,b,rfl,⟨ü h0,.inl ⟨4000,rfl,h1⟩⟩,rfl,λh=>by omega⟩ (-0) ?_))
 rintro n ρ z1 ⟨rfl,c,d,rfl,g,hg,hc⟩;refine ib (b:=decide (0 < d)) (λhd=>?_) λhd=>?_
 ·rw[decide_eq_true_eq] at hd;obtain⟨m,hm,g'⟩:=g.step hd;refine(a00 (S21 (i:=c) hd) ?_ :);exact⟨m,hm,rfl,d,c % d,rfl,g',(G11 c d).trans hg,λ_=>Int.le_of_lt hd⟩
 ·rw[decide_eq_false_iff_not] at hd;have hz:d=0:=by have:=g.1;omega
  subst hz;rw[Int.gcd_zero_right] at hg;refine sd (s:=.d (.int c)) ?_;rw[← hg,show((c.natAbs:Nat):Int)=c by have:=hc rfl;omega]
def chI(t b:Int):Bool:=(decide (1<=b)&&decide (b<=1000))&&((decide (0<=t)&&decide (t<=b))&&(((gcd t b:Nat):Int) == 1))
def chP:D->D->Bool
 |.int t,.int b=>chI t b|_,_=>false
def chD:D->Bool
 |.tup [d,e]=>chP d e|_=>false
theorem l91(h:¬ (1<=u/\u<=1000/\0<=t/\t<=u)):false=chI t u:=by
 unfold chI;refine Eq.symm ?_;rw[Bool.eq_false_iff];intro q;rw[À,À,À,À,decide_eq_true_eq,decide_eq_true_eq,decide_eq_true_eq,decide_eq_true_eq] at q;exact h ⟨q.1.1,q.1.2,q.2.1.1,q.2.1.2⟩
theorem Z00(k:Nat)(x:D)(z:Z):a70 T (k + 4) I10 [.d x] z=some (.ok (.d (.bl (chD x))) z):=by
 refine W.ok (f40 (ps:=1) (ns:=3) (b:=v90) rfl rfl (-0) ?_)
 cases x with
 |tup l =>
  match l with
  |[a,b] =>
   refine Wo (p30 k a z) ?_;cases a with
   |int t =>
    refine Wo (p30 k b z) ?_;cases b with
    |int u =>
     refine ib (b:=decide (1<=u)) (λh1=>ib (b:=!decide (u<=1000)) (λh2=>?_) λh2=>ib (b:=decide (0<=t)) (λh3=>ib (b:=!decide (t<=u)) (λh4=>?_) λh4=>?_) λh3=>?_) λh1=>?_
     ·exact sb (l91 λq=>by rw[á,decide_eq_false_iff_not] at h2;exact h2 q.2.1)
     ·exact sb (l91 λq=>by rw[á,decide_eq_false_iff_not] at h4;exact h4 q.2.2.2)
     ·rw[Ð9,decide_eq_true_eq] at h2 h4;rw[decide_eq_true_eq] at h1 h3;refine Wo (n90 k t u z ∅ (y90 ∅)) (sb (show(((gcd t u:Nat):Int) == 1)=chI t u from ?_))
      unfold chI;rw[decide_eq_true h1,decide_eq_true h2,decide_eq_true h3,decide_eq_true h4];rfl
     ·exact sb (l91 λq=>by rw[decide_eq_false_iff_not] at h3;exact h3 q.2.2.1)
     ·exact sb (l91 λq=>by rw[decide_eq_false_iff_not] at h1;exact h1 q.1)
    |_=>exact sb rfl
   |_=>exact sb rfl
  |[]=>exact sb rfl|[_]=>exact sb rfl|_::_::_::_=>exact sb rfl
 |_=>exact sb rfl
def D82(n:Nat):D->Bool
 |.tup l=>(l.length == n)&&l.all chD|_=>false
theorem G21(h:S11 x=true):∃ m ts,x=.tup [.int m,.tup ts]/\1<=m/\m<=6/\ts.length<=8/\(∀ t∈ts,F81 t m=true)/\Y70 ts=true:=by
 cases x with
 |tup l =>
  match l,h with
  |[a,t],h =>
   unfold S11 Q82 at h;cases a with
   |int m =>
    rw[À,À,decide_eq_true_eq,decide_eq_true_eq] at h;obtain⟨h1,h2,h3⟩:=h;unfold Y80 at h3;cases t with
    |tup ts =>
     rw[À,À,decide_eq_true_eq,Á1] at h3;exact⟨m,ts,rfl,h1,h2,h3.1,h3.2.1,h3.2.2⟩
    |_=>cases h3
   |_=>cases h
 |_=>cases h
theorem K50(k:Nat)(hw:S11 (.tup [.int m,.tup ts])=true)(x:D)(z:Z):a70 T (k + 9) y30 [.d (.tup [.int m,.tup ts]),.d x] z=some (.ok (.d (.bl (D82 ts.length x))) z):=by
 obtain⟨m',ts',e,_,_,h8,_⟩:=G21 hw;cases e;refine W.ok (f40 (ps:=2) (ns:=2) (b:=o80) rfl rfl (-0) (Wo (i60 k z hw) ?_))
 cases x with
 |tup l =>
  have e:((l.length:Int) == (ts.length:Int))=(l.length == ts.length):=by rw[À0,beq_iff_eq,beq_iff_eq];omega
  refine ib (b:=!((l.length:Int) == (ts.length:Int))) (λh=>?_) λh=>?_
  ·rw[e,á] at h;exact sb (show false=((l.length == ts.length)&&_) by rw[h];rfl)
  ·rw[e,Ð9] at h;refine ip (h40 (by rw[beq_iff_eq] at h;omega)) (I00 (λx=>.bl (chD x)) (λx _=>Wo (Z00 (k + 4) x z) ⟨rfl,rfl⟩) (a00 (u80 l chD) ?_ :))
   exact sb (b:=l.all chD) (show _=((l.length == ts.length)&&l.all chD) by rw[h];rfl)
 |_=>exact sb rfl
theorem p90(k:Nat)(hw:S11 (.tup [.int m,.tup ts])=true)(z:Z)(h:D82 ts.length x=true):a70 T (k + 10) k60 [.d (.tup [.int m,.tup ts]),.d x] z=some (.ok (.d .non) z) :=
 W.ok (f40 (ps:=2) (ns:=2) (b:=k80) rfl rfl (-0) (Wo (K50 k hw x z) (ie (b:=!D82 ts.length x) (by rw[h];rfl) (sd rfl))))
def ZI(z:Z):Prop:=∃ n b,z=some (n,b)/\0<=n/\(b=false->n < 2147483647)
theorem q32{T:List Df}{k f ps ns:Nat}{b:Sm}{l:List S}{z:Z}{Q:S->Z->Prop}{E:Nat->Z->Prop}(hz:ZI z)(h:T[f]?=some (.code ps ns b))(hl:l.length=ps)(hn:ps<=ns)(q:WS (A41 T (k + 2)) false b (start ns (l.map plS)) z (λo z1=>match o with
  |.nx _=>Q (.d .non) z1
  |.rt s=>Q s z1) E):W (a70 T (k + 3) f l) z Q E:=by
 obtain⟨n,c,rfl,_⟩:=hz;refine f40 h hl hn (q.mono (λo z1 h=>?_) λ_ _ h=>h);cases o <;> exact h
theorem G31{a:Int}{n:Nat}(h:a.natAbs < n)(hn:n<=2 ^ 64:=by decide):a.natAbs < d21:=Ý h (Ù hn (-0))
theorem G41{i j:Int}(hi:i.natAbs < 2 ^ 64)(hj:j.natAbs < 2 ^ 64):C00 .mul (.int i) (.int j)=some (.d (.int (i * j))):=by
 show(if i.natAbs < d21/\j.natAbs < d21 then some (S.d (.int (i * j))) else none)=_;rw[if_pos ⟨G31 hi,G31 hj⟩]
theorem Q92{i j:Int}(hj:0 < j)(hb:j.natAbs < 2 ^ 64):C00 .fdiv (.int i) (.int j)=some (.d (.int (i / j))):=by
 show(if 0 < j/\j.natAbs < d21 then some (S.d (.int (i / j))) else none)=_;rw[if_pos ⟨hj,G31 hb⟩]
def Drawn(m:Int)(s:S)(z1:Z):Prop:=ZI z1/\∃ r:Nat,s=.d (.int r)/\(r:Int) < m
theorem j80(k:Nat)(m:Int)(hz:ZI z)(m0:0 < m)(m1:m < 2 ^ 32):W (a70 T (k + 3) b30 [.z,.d (.int m)]) z (Drawn m) NE:=by
 have fin:∀ (a:Int) (z1:Z),ZI z1->Drawn m (.d (.int (a % m))) z1:=λa z1 h=>by
  have h0:=emod_nonneg a (show m≠0 by omega)
  exact⟨h,(a % m).toNat,by rw[Int.toNat_of_nonneg h0],by rw[Int.toNat_of_nonneg h0];exact emod_lt_of_pos _ m0⟩
 refine q32 hz (ps:=2) (ns:=4) (b:=w30) rfl rfl (-0) ?_
 obtain⟨n,b,rfl,n0,n1⟩:=hz;cases b with
 |true =>
  refine(a00 (S21 (i:=n) m0) ?_ :);refine(a00 (Q92 (i:=n) m0 ∅) ?_ :)
  exact fin n _ ⟨n / m,true,rfl,Int.ediv_nonneg n0 ∅,λh=>nomatch h⟩
 |false =>
  have n1:=n1 rfl;have e1:∀ a:Int,0<=a % 2147483647/\a % 2147483647 < 2147483647:=λa=>⟨emod_nonneg _ (-0),emod_lt_of_pos _ (-0)⟩
  have e2:∀ a:Int,0<=a % 2147483629/\a % 2147483629 < 2147483629:=λa=>⟨emod_nonneg _ (-0),emod_lt_of_pos _ (-0)⟩
  have s1:∀ a:Int,(a % 2147483647).natAbs < 2 ^ 64:=λa=>by have:=e1 a;omega
  have s2:∀ a:Int,(a % 2147483629).natAbs < 2 ^ 64:=λa=>by have:=e2 a;omega
  refine(a00 (G41 (i:=n) (j:=48271) ∅ (-0)) ?_ :)
  have a1:=e1 (n * 48271 + 29);refine(a00 (G41 (s1 (n * 48271 + 29)) (s1 (n * 48271 + 29))) ?_ :);refine(a00 (G41 (i:=39373) (-0) (s1 (n * 48271 + 29))) ?_ :)
  refine(a00 (G41 (s2 _) (s2 _)) ?_ :);refine(a00 (G41 (i:=16807) (-0) (s2 _)) ?_ :)
  refine(a00 (S21 m0) ?_ :);exact fin _ _ ⟨_,false,rfl,a1.1,λ_=>a1.2⟩
theorem s91(k:Nat)(ns:List Int)(j:Nat)(z:Z):∃ c:Int,a70 T (k + 3) u50 [.d (.lst (ns.map D.int)),.d (.int j)] z=some (.ok (.d (.int c)) z):=by
 by_cases h:j < ns.length
 ·refine⟨ns[j],W.ok (f40 (ps:=2) (ns:=2) (b:=i20) rfl rfl (-0) (it (b:=decide ((j:Int) < ((ns.map D.int).length:Int))) (by simp[h]) ?_))⟩
  refine(a00 (o:=T90 (.lst (ns.map D.int)) (.int j)) (L2.c01 (v:=.int ns[j]) (by simp[h])) ?_ :)
  exact sd rfl
 ·exact⟨0,W.ok (f40 (ps:=2) (ns:=2) (b:=i20) rfl rfl (-0) (ie (b:=decide ((j:Int) < ((ns.map D.int).length:Int))) (by simp;omega) (sd rfl)))⟩
theorem S31(k:Nat)(ns:List Int)(j:Nat)(z:Z):∃ (n:Int) (b:Bool),ZI (some (n,b))/\a70 T (k + 4) C80 [.d (.lst (ns.map D.int)),.d (.int j)] z=some (.ok (.fr [.int n,.bl b]) z):=by
 obtain⟨c,hc⟩:=s91 k ns j z;by_cases h:(10 ^ 18:Int)<=c
 ·exact⟨c - 10 ^ 18,true,⟨_,_,rfl,by omega,λh=>nomatch h⟩,W.ok (f40 (ps:=2) (ns:=3) (b:=l90) rfl rfl (-0) (Wo hc (it (b:=decide ((10 ^ 18:Int)<=c)) (decide_eq_true h) (sd rfl))))⟩
 ·refine⟨c % 2147483647,false,⟨_,_,rfl,emod_nonneg _ (-0),λ_=>emod_lt_of_pos _ (-0)⟩,W.ok (f40 (ps:=2) (ns:=3) (b:=l90) rfl rfl (-0) (Wo hc (ie (b:=decide ((10 ^ 18:Int)<=c)) (decide_eq_false h) (sd rfl))))⟩
theorem K60(h0:0<=m)(h1:m < 100000):itD .rng1 [.int m]=some ((Ø m.toNat).map λ(i:Nat)=>D.int i):=by
 show(if inR m=true then _ else none)=_;rw[if_pos (G40.mpr ⟨by omega,h1⟩)]
theorem ne_nil(h:okD (.lst l)=true):E40 .ne (.lst l) (.lst [])=some (!l.isEmpty):=by
 show(eqO (.lst l) (.lst [])).map (!·)=_;unfold eqO;rw[h];cases l <;> rfl
theorem R40:∀ l:List Int,g00 (l.map D.int)=true/\h70 (l.map D.int)=0
 |[]=>⟨rfl,rfl⟩
 |x::r=>by
  obtain⟨h1,h2⟩:=R40 r;refine⟨h1,?_⟩;show Nat.max 0 (h70 (r.map D.int))=0;rw[h2];rfl
theorem G51(l:List Int):okD (.lst (l.map D.int))=true:=by
 obtain⟨h1,h2⟩:=R40 l;show(g00 (l.map D.int)&&decide (h70 (l.map D.int) + 1<=40))=true;rw[h1,h2];rfl
theorem m01(n:Nat):(Ø n).map (λ(i:Nat)=>D.int i)=((Ø n).map λ(i:Nat)=>(i:Int)).map D.int:=by
 rw[Ü];rfl
theorem D00(f:α->β):∀ (l:List α) (i:Nat),(l.map f).eraseIdx i=(l.eraseIdx i).map f
 |[],_=>rfl|x::r,0=>rfl|x::r,i + 1=>congrArg (f x::·) (D00 f r i)
theorem M50:∀ (l:List α) (j:Nat) (h:j < l.length),(l[j]::l.eraseIdx j).Perm l
 |x::r,0,_=>.refl _|x::r,j + 1,h=>(List.Perm.swap _ _ _).trans ((M50 r j (Nat.lt_of_succ_lt_succ h)).cons x)
theorem B40{l:List Int}{j:Nat}(h:j < l.length):(l.map D.int)[j]?=some (.int l[j]):=by rw[ã,Ñ h];rfl
theorem g21{j:Nat}(h:l[j]?=some x):T90 (.lst l) (.int j)=some x:=L2.c01 h
theorem g31{j:Nat}(h:l[j]?=some x):T90 (.tup l) (.int j)=some x:=L2.c01 h
theorem l72(k:Nat){m:Int}{z:Z}(hz:ZI z)(m0:1<=m)(m1:m<=100):W (a70 T (k + 4) C90 [.z,.d (.int m)]) z (λs z1=>ZI z1/\∃ l:List Int,s=.d (.tup (l.map D.int))/\(l.length:Int)=m/\(∀ x∈l,0<=x/\x < m)/\l.Nodup) NE:=by
 refine q32 hz (ps:=2) (ns:=4) (b:=s20) rfl rfl (-0) ?_
 refine(a00 (o:=lrD [.int m]) (K60 ∅ ∅) ?_ :)
 refine l32 (λn ρ z1=>ZI z1/\∃ left found:List Int,ρ=[some .z,some (.d (.int m)),some (.fr (left.map D.int)),some (.fr (found.map D.int))]/\n=left.length/\(left++found).Nodup/\(∀ x∈left++found,0<=x/\x < m)/\((left.length + found.length:Nat):Int)=m) m.toNat ?_ (by show m.toNat < 20000;omega) ?_
 ·refine⟨hz,(Ø m.toNat).map λ(i:Nat)=>(i:Int),[],?_,by simp,?_,?_,by simp;omega⟩
  ·rw[← m01];rfl
  ·rw[Ã0];exact List.pairwise_map.mpr (List.nodup_range.imp λh e=>h (Int.ofNat_inj.mp e))
  ·intro x hx;rw[Ã0] at hx;obtain⟨i,hi,rfl⟩:=Ë.mp hx;have:=é.mp hi;omega
 ·rintro n ρ z1 ⟨hz1,left,found,rfl,rfl,nd,hm,hl⟩;refine(a00 (ne_nil (G51 left)) ?_ :);cases left with
  |nil=>exact⟨hz1,found,rfl,by simpa using hl,λx hx=>hm x (by simpa using hx),by simpa using nd⟩
  |cons x r =>
   have hl2:((r.length + 1 + found.length:Nat):Int)=m:=by simpa using hl
   refine(j80 k (((x::r).map D.int).length:Int) hz1 (by simp only[Å,Õ];omega) (by simp only[Å,Õ];omega)).imp λs z2 ⟨hz2,j,e,v1⟩=>?_
   subst e;have hj:j < (x::r).length:=by simp only[Å] at v1;omega
   have hget:((x::r).map D.int)[j]?=some (.int ((x::r)[j])):=B40 hj;have ha:A11 [some .z,some (.d (.int m)),some (.fr ((x::r).map D.int)),some (.fr (found.map D.int))] 3 2 (found.map D.int) ((x::r).map D.int) j=some (.nx [some .z,some (.d (.int m)),some (.fr (((x::r).map D.int).eraseIdx j)),some (.fr (found.map D.int++[.int ((x::r)[j])]))]):=by
    unfold A11;rw[if_pos ⟨by decide,by omega,G40.mpr (by simp only[Õ] at hj;omega),by rw[Å];simp only[most];omega⟩,Á3,hget]
    rfl
   refine a00 (o:=(pl [S.d (.int j)]).bind asI) (a:=(j:Int)) rfl (a00 ha ?_);refine⟨((x::r).eraseIdx j).length,?_,hz2,(x::r).eraseIdx j,found++[(x::r)[j]],?_,rfl,?_,?_,?_⟩
   ·rw[Í8 hj];simp
   ·rw[D00,Â1];rfl
   ·have hp:(((x::r).eraseIdx j)++(found++[(x::r)[j]])).Perm ((x::r)++found):=by
     have h1:((x::r)[j]::(x::r).eraseIdx j).Perm (x::r):=M50 _ _ hj;have h2:(((x::r).eraseIdx j)++(found++[(x::r)[j]])).Perm ((x::r)[j]::((x::r).eraseIdx j++found)):=by
      rw[← Ä1];exact Ü5 _ _
     exact h2.trans (h1.append_right found)
    exact hp.nodup_iff.mpr nd
   ·intro y hy;refine hm y ?_;simp only[Ç7,ð] at hy ⊢;rcases hy with hy | hy | hy
    ·exact .inl (List.mem_of_mem_eraseIdx hy)
    ·exact .inr hy
    ·exact .inl (by rw[hy];exact À4 hj)
   ·rw[Í8 hj,ö];simp only[Õ,Ã9] at hl ⊢;omega
def pr(p:Int × Int):D:=.tup [.int p.1,.int p.2]
def ky(p:Int × Int):List Int:=[p.1,p.2]
theorem b83(a b c d:Int):MySort.f10 [a,b] [c,d]=if a=c then(if b=d then false else decide (b < d)) else decide (a < c):=rfl
def Ch:List (Int × Int)->Prop
 |a::b::r=>HT.leB (ky a) (ky b)=true/\Ch (b::r)|_=>True
theorem m11(h:MySort.f10 (ky p) (ky q)=true):HT.leB (ky p) (ky q)=true:=by
 unfold HT.leB;unfold ky at h ⊢;rw[b83] at h ⊢;by_cases h1:p.1=q.1
 ·rw[if_pos h1] at h;rw[if_pos h1.symm];by_cases h2:p.2=q.2
  ·rw[if_pos h2] at h;cases h
  ·rw[if_neg h2] at h;rw[if_neg (Â4 h2)];simp only[decide_eq_true_eq] at h;simp;omega
 ·rw[if_neg h1] at h;rw[if_neg (Â4 h1)];simp only[decide_eq_true_eq] at h;simp;omega
def K81(k:Int × Int):List (Int × Int)->List (Int × Int)
 |[]=>[k]|y::r=>if MySort.f10 (ky y) (ky k) then y::K81 k r else k::y::r
def G61:List (Int × Int)->List (Int × Int)
 |[]=>[]|k::r=>K81 k (G61 r)
theorem Z10(k:Int × Int):∀ l,(K81 k l).Perm (k::l)
 |[]=>.refl _
 |y::r=>by
  unfold K81;split
  ·exact((Z10 k r).cons y).trans (.swap _ _ _)
  ·exact .refl _
theorem M60:∀ l,(G61 l).Perm l
 |[]=>.refl _|k::r=>(Z10 k _).trans ((M60 r).cons k)
theorem G71(k:Int × Int):∀ l,Ch l->Ch (K81 k l)
 |[],_=>trivial
 |[y],_=>by
  unfold K81;split
  ·rename_i h;exact⟨m11 h,trivial⟩
  ·rename_i h;refine⟨?_,trivial⟩;unfold HT.leB;simpa using h
 |y::x::r,h=>by
  obtain⟨h1,h2⟩:=h;have ih:=G71 k (x::r) h2;unfold K81;split
  ·rename_i hy;unfold K81 at ih ⊢;split at ih
   ·rename_i hx;rw[if_pos hx];exact⟨h1,ih⟩
   ·rename_i hx;rw[if_neg hx];exact⟨m11 hy,ih⟩
  ·rename_i hy;refine⟨?_,h1,h2⟩;unfold HT.leB;simpa using hy
theorem m21:∀ l,Ch (G61 l)
 |[]=>trivial|k::r=>G71 k _ (m21 r)
theorem m31(k:Int × Int):∀ l:List (Int × Int),P21 (pr k) (l.map pr)=(K81 k l).map pr
 |[]=>rfl
 |y::r=>by
  unfold K81;show(if MySort.f10 (ky y) (ky k) then pr y::P21 (pr k) (r.map pr) else pr k::pr y::r.map pr)=_;split
  ·rw[m31 k r];rfl
  ·rfl
theorem Z20:∀ l:List (Int × Int),D90 (l.map pr)=(G61 l).map pr
 |[]=>rfl
 |k::r=>by
  show P21 (pr k) (D90 (r.map pr))=_;rw[Z20 r,m31];rfl
theorem R02(p q:Int × Int):ltD (pr p) (pr q)=some (MySort.f10 (ky p) (ky q)):=by
 show(if (p.1 == q.1)=true then(if (p.2 == q.2)=true then some false else some (decide (p.2 < q.2))) else some (decide (p.1 < q.1)))=some (if p.1=q.1 then(if p.2=q.2 then false else decide (p.2 < q.2)) else decide (p.1 < q.1));simp only[beq_iff_eq];split
 ·split <;> rfl
 ·rfl
theorem l82(p q:Int × Int):k30 (pr p) (pr q)=true:=by
 unfold k30;rw[R02];show(true&&((some (MySort.f10 (ky p) (ky q)) == some (MySort.f10 (ky p) (ky q)))&&(((p.1 == q.1)&&((p.2 == q.2)&&true)) || !([p.1,p.2] == [q.1,q.2]))))=true;rw[beq_self_eq_true,Ä0,Ä0,Æ8];by_cases h1:p.1=q.1 <;> by_cases h2:p.2=q.2 <;> simp[h1,h2]
theorem G81(l:List (Int × Int)):i30 (l.map pr)=true:=by
 refine ä.mpr λx hx=>?_;obtain⟨p,_,rfl⟩:=Ë.mp hx;show(true&&(true&&(l.map pr).all (k30 (pr p))))=true;refine ä.mpr λy hy=>?_;obtain⟨q,_,rfl⟩:=Ë.mp hy;exact l82 p q
theorem G91(h:l.length < 64):bfD .sorted [.lst (l.map pr)]=some (.fr ((G61 l).map pr)):=by
 show(if (l.map pr).length < 64/\i30 (l.map pr)=true then some (S.fr (D90 (l.map pr))) else(P31 (l.map pr)).map S.fr)=_;rw[if_pos ⟨by rw[Å];exact h,G81 l⟩,Z20]
theorem m41:∀ {l:List (Int × Int)},Ch l->Y70 (l.map pr)=true
 |[],_=>rfl|[_],_=>rfl
 |a::b::r,h=>by
  have ih:=m41 h.2;show((A60 (pr a::pr b::r.map pr) (pr b::r.map pr)).all leD)=true;have e:A60 (pr a::pr b::r.map pr) (pr b::r.map pr)=.tup [pr a,pr b]::A60 (pr b::r.map pr) (r.map pr):=rfl;rw[e,Ã6,À];exact⟨h.1,ih⟩
theorem z00:∀ l:List (Int × Int),h20 (l.map pr)=true
 |[]=>rfl
 |_::r=>by
  show(bare _&&h20 (r.map pr))=true;rw[z00 r];rfl
theorem D92:∀ l:List (Int × Int),g00 (l.map pr)=true/\h70 (l.map pr)<=1
 |[]=>⟨rfl,by decide⟩
 |p::r=>by
  obtain⟨h1,h2⟩:=D92 r;refine⟨?_,?_⟩
  ·show(A20 (pr p)&&g00 (r.map pr))=true;rw[h1];rfl
  ·show Nat.max (deep (pr p)) (h70 (r.map pr))<=1;have:deep (pr p)=1:=rfl;rw[this];exact Nat.max_le.mpr ⟨Ê _,h2⟩
theorem l92(l:List (Int × Int)):okD (.lst (l.map pr))=true:=by
 obtain⟨h1,h2⟩:=D92 l;unfold okD;rw[À,decide_eq_true_eq];refine⟨h1,?_⟩;show h70 (l.map pr) + 1<=40;omega
def D10(m:Int)(ps:List (Int × Int)):D:=.tup [.int m,.tup (ps.map pr)]
structure c30(m:Int)(ps:List (Int × Int)):Prop where
 m1:1<=m
 m6:m<=6
 len:ps.length<=8
 tie:∀ p∈ps,0<=p.1/\p.1 < p.2/\p.2 < m
 ch:Ch ps
theorem c30.web(g:c30 m ps):S11 (D10 m ps)=true:=by
 unfold D10 S11 Q82 Y80;simp only[À,decide_eq_true_eq,Á1,Å];refine⟨g.m1,g.m6,g.len,λt ht=>?_,m41 g.ch⟩;obtain⟨p,hp,rfl⟩:=Ë.mp ht;obtain⟨h1,h2,h3⟩:=g.tie p hp;unfold pr F81 d40;simp only[À,decide_eq_true_eq];omega
def OkP(m:Int)(p:Int × Int):Prop:=0<=p.1/\p.1 < m/\0<=p.2/\p.2 < m/\p.1≠p.2
theorem E02(h1:0<=i)(hi:i < 100)(h0:-100 < m)(h:m < 100000):itD .rng2 [.int i,.int m]=some ((Ø (m - i).toNat).map λ(k:Nat)=>D.int (i + k)):=by
 show(if inR i=true/\inR m=true then _ else none)=_;rw[if_pos ⟨G40.mpr ∅,G40.mpr ∅⟩]
theorem g41{L:List D}{n:Nat}(f:D->Bool)(h:n < L.length)(ha:L.all f=true):∃ x,L[n]?=some x/\f x=true :=
 ⟨L[n],Ñ h,ä.mp ha _ (À4 h)⟩
def btw(a b:Int):D->Bool
 |.int i=>decide (a<=i)&&decide (i<=b)|_=>false
theorem H01(h:btw a b x=true):∃ i,x=.int i/\a<=i/\i<=b:=by
 cases x with
 |int i =>
  unfold btw at h;rw[À,decide_eq_true_eq,decide_eq_true_eq] at h;exact⟨i,rfl,h⟩
 |_=>cases h
theorem Z30(h1:a<=i)(h2:i<=b):btw a b (.int i)=true:=by
 show(decide (a<=i)&&decide (i<=b))=true;rw[decide_eq_true h1,decide_eq_true h2];rfl
theorem Z21{l:List Int}(nd:l.Nodup){i j:Nat}(hi:i < l.length)(hj:j < l.length)(h:i≠j):l[i]≠l[j]:=λe=>h ((getElem_inj nd).mp e)
theorem m51(l:List D)(h:0<=n):cutD l none (some n)=l.take n.toNat:=by
 obtain⟨k,rfl⟩:=Ê7 h;have h1:HT.sIx l.length l.length (some (k:Int))=min k l.length:=HT.w11 _ _ k;unfold cutD;rw[h1];show(l.drop 0).take (min k l.length - 0)=_;rw[List.drop_zero,Nat.sub_zero,Á3];rcases Nat.le_total k l.length with h | h
 ·rw[Nat.min_eq_left h]
 ·rw[Nat.min_eq_right h,List.take_length,È7 h]
theorem R50(h:∀ p∈ps,OkP m p)(hp:OkP m p):∀ q∈ps++[p],OkP m q:=λq hq=>by
 rcases ó.mp hq with hq | hq
 ·exact h q hq
 ·rw[ù.mp hq];exact hp
theorem E12{α:Type}{l:List α}{a:α}:(l++[a]).length=l.length + 1:=by rw[ö];rfl
theorem Z31(a b:Int):(if b < a then b else a)=min a b/\(if b > a then b else a)=max a b:=by
 constructor <;> (split <;> omega)
abbrev m02(mo m:Int)(l:List Int)(wn:Nat)(ps:List (Int × Int))(o6 o7 o8 o9:Option S):Env:=[some .z,some (.d (.int mo)),some (.d (.int m)),some (.d (.tup (l.map D.int))),some (.d (.int wn)),some (.fr (ps.map pr)),o6,o7,o8,o9]
theorem m61:m02 mo m l wn (ps++[p]) o6 o7 o8 o9=[some .z,some (.d (.int mo)),some (.d (.int m)),some (.d (.tup (l.map D.int))),some (.d (.int wn)),some (.fr (ps.map pr++[pr p])),o6,o7,o8,o9]:=by rw[m02,Â1];rfl
theorem Z40{P:Int × Int->Prop}:∀ {xs ys:List D},PySem.Paired (λ_ y=>∃ c,y=pr c/\P c) xs ys->∃ cs:List (Int × Int),ys=cs.map pr/\cs.length=xs.length/\∀ c∈cs,P c
 |[],_,h=>by cases h;exact⟨[],rfl,rfl,λc hc=>nomatch hc⟩
 |x::r,_,h=>by
  cases h with
  |cons h1 h2 =>
   obtain⟨c,rfl,hc⟩:=h1;obtain⟨cs,rfl,hl,ha⟩:=Z40 h2;refine⟨c::cs,rfl,by rw[Õ,hl];rfl,λd hd=>?_⟩
   rcases à.mp hd with rfl | hd
   ·exact hc
   ·exact ha d hd
theorem H11(k:Nat){mo:Int}{z:Z}(hz:ZI z)(h0:0<=mo)(h8:mo<=8):W (a70 T (k + 5) M30 [.z,.d (.int mo)]) z (λs z1=>ZI z1/\∃ m ps,s=.d (D10 m ps)/\c30 m ps/\(ps.length:Int)<=mo) NE:=by
 refine q32 hz (ps:=2) (ns:=10) (b:=B30) rfl rfl (-0) ?_
 refine(j80 (k + 1) 8 hz (-0) (-0)).imp λs z1 ⟨hz1,n,e,hn⟩=>?_
 subst e;obtain⟨x,ex,hx⟩:=g41 (L:=[D.int 5,.int 4,.int 6,.int 3,.int 4,.int 2,.int 6,.int 1]) (n:=n) (btw 1 6) (by simp only[Õ,Ã9];omega) (-0)
 obtain⟨m,rfl,m1,m6⟩:=H01 hx;refine(a00 (g21 ex) ?_ :);refine(l72 k hz1 m1 ∅).imp λs z2 ⟨hz2,l,e,ll,lm,nd⟩=>?_
 subst e;refine(j80 (k + 1) 6 hz2 (-0) (-0)).imp λs z3 ⟨hz3,wn,e,hw⟩=>?_
 subst e;refine(a00 (E02 (i:=1) (m:=m) (-0) (-0) ∅ ∅) ?_ :)
 have hll:1<=l.length:=by omega
 refine H90 (λxs ρ z=>ZI z/\(∀ x∈xs,∃ a:Nat,x=.int a/\1<=a/\(a:Int) < m)/\∃ (ps:List (Int × Int)) (o6:Option S),ρ=m02 mo m l wn ps o6 none none none/\(∀ p∈ps,OkP m p)/\ps.length + xs.length<=6) _ ⟨hz3,λx hx=>?_,[],none,rfl,(λp hp=>nomatch hp),by simp;omega⟩ ?_ ?_
 ·obtain⟨i,hi,rfl⟩:=Ë.mp hx;have:=é.mp hi;exact⟨1 + i,by rw[Int.natCast_add];rfl,by omega,by omega⟩
 ·rintro x r ρ z4 ⟨hz4,hx,ps,o6,rfl,hp,hl⟩;obtain⟨an,rfl,a1,a2⟩:=hx x Ç;obtain⟨y,ey,hy⟩:=g41 (L:=[D.int (an - 1),.int (an - 1),.int 0,.int ((an:Int) / 2),.int (an - 1),.int 0]) (n:=wn) (btw 0 (an - 1)) (by simp only[Õ,Ã9];omega) (by
   simp only[Ã6,all_nil,Æ8,À];refine⟨Z30 ?_ ?_,Z30 ?_ ?_,Z30 ?_ ?_,Z30 ?_ ?_,Z30 ?_ ?_,Z30 ?_ ?_⟩ <;> omega)
  obtain⟨v,rfl,v0,v1⟩:=H01 hy;obtain⟨v,rfl⟩:=Ê7 v0;have ha:an < l.length:=by omega
  have hvl:v < l.length:=by omega
  refine(a00 (g31 (B40 ha)) ?_ :);refine(a00 (g21 ey) ?_ :);refine(a00 (g31 (B40 hvl)) ?_ :);refine ip ⟨rfl,by rw[Å];simp only[most,Õ] at hl ⊢;omega⟩ ?_
  have h1:=lm _ (À4 ha);have h2:=lm _ (À4 hvl);exact⟨hz4,λx hx'=>hx x (É _ hx'),ps++[(l[an],l[v])],_,(m61 (p:=(l[an],l[v]))).symm,R50 hp ⟨h1.1,h1.2,h2.1,h2.2,Z21 nd ha hvl ∅⟩,by rw[E12];simp only[Õ] at hl;omega⟩
 ·rintro ρ z4 ⟨hz4,_,ps,o6,rfl,hp,hl⟩;have hl':ps.length<=6:=hl;refine l22 (λρ z5=>z5=z4/\∃ ps:List (Int × Int),ρ=m02 mo m l wn ps o6 none none none/\(∀ p∈ps,OkP m p)/\ps.length<=7) ?_ ?_
  ·refine ib (b:=(wn:Int) == 0) (λh1=>ib (b:=decide (2 < m)) (λh2=>?_) λh2=>⟨rfl,ps,rfl,hp,by omega⟩) λh1=>⟨rfl,ps,rfl,hp,by omega⟩
   rw[decide_eq_true_eq] at h2;have i2:m.toNat - 1 < l.length:=by omega
   have e2:m - 1=((m.toNat - 1:Nat):Int):=by omega
   refine(a00 (g31 (j:=0) (B40 hll)) ?_ :);refine(a00 (o:=T90 (.tup (l.map D.int)) (.int (m - 1))) (a:=.int l[m.toNat - 1]) (by rw[e2];exact g31 (B40 i2)) ?_ :)
   refine ip ⟨rfl,by rw[Å];simp only[most];omega⟩ ?_
   have h3:=lm _ (À4 hll);have h4:=lm _ (À4 i2);exact⟨rfl,ps++[(l[0],l[m.toNat - 1])],(m61 (p:=(l[0],l[m.toNat - 1]))).symm,R50 hp ⟨h3.1,h3.2,h4.1,h4.2,Z21 nd hll i2 ∅⟩,by rw[E12];omega⟩
  ·rintro ρ z5 ⟨rfl,ps,rfl,hp,hl⟩;refine l22 (λρ z6=>z6=z5/\∃ (ps:List (Int × Int)) (o6:Option S),ρ=m02 mo m l wn ps o6 none none none/\(∀ p∈ps,OkP m p)/\ps.length<=7) ?_ ?_
   ·refine ib (b:=(wn:Int) == 4) (λh1=>⟨rfl,ps.drop 1,K30 (K20 (.fr (cutD (ps.map pr) (some 1) none))) o6,?_,λp hp'=>hp p (Ó3 hp'),by rw[Ë0];omega⟩) λh1=>⟨rfl,ps,o6,rfl,hp,hl⟩
    have e:(ps.drop 1).map pr=cutD (ps.map pr) (some 1) none:=by rw[List.map_drop];exact(t20 _ 1).symm
    exact Eq.symm (congrArg (λx=>[some S.z,some (.d (.int mo)),some (.d (.int m)),some (.d (.tup (l.map D.int))),some (.d (.int wn)),some (.fr x),K30 (K20 (.fr (cutD (ps.map pr) (some 1) none))) o6,none,none,none]) e)
   ·rintro ρ z6 ⟨rfl,ps,o6,rfl,hp,hl⟩;refine(j80 (k + 1) 5 hz4 (-0) (-0)).imp λs z5 ⟨hz5,t,e,ht⟩=>?_
    subst e;refine(a00 (K60 (m:=t) ∅ ∅) ?_ :)
    refine H90 (λxs ρ z=>ZI z/\∃ (ps:List (Int × Int)) (o6 o7 o8 o9:Option S),ρ=m02 mo m l wn ps o6 o7 o8 o9/\(∀ p∈ps,OkP m p)/\ps.length + xs.length<=11) _ ⟨hz5,ps,_,_,_,_,rfl,hp,by simp;omega⟩ ?_ ?_
    ·rintro x r ρ z2 ⟨hz2,ps,o6,o7,o8,o9,rfl,hp,hl⟩;refine(j80 (k + 1) m hz2 ∅ ∅).imp λs z3 ⟨hz3,a,e,a1⟩=>?_
     subst e;refine(j80 (k + 1) m hz3 ∅ ∅).imp λs z4 ⟨hz4,b,e,b1⟩=>?_
     subst e;refine ib (b:=!((a:Int) == (b:Int))) (λhab=>?_) λhab=>⟨hz4,ps,_,_,_,_,rfl,hp,by simp only[Õ] at hl;omega⟩
     refine ip ⟨rfl,by rw[Å];simp only[most,Õ] at hl ⊢;omega⟩ ?_
     exact⟨hz4,ps++[((a:Int),(b:Int))],_,_,_,_,(m61 (p:=((a:Int),(b:Int)))).symm,R50 hp ⟨by omega,a1,by omega,b1,by simpa using hab⟩,by rw[E12];simp only[Õ] at hl;omega⟩
    ·rintro ρ z2 ⟨hz2,ps,o6,o7,o8,o9,rfl,hp,hl⟩;refine l22 (λρ z3=>ZI z3/\∃ ps:List (Int × Int),ρ=m02 mo m l wn ps o6 o7 o8 o9/\(∀ p∈ps,OkP m p)/\ps.length<=12) ?_ ?_
     ·have hl:ps.length<=11:=hl;refine(a00 (ne_nil (l92 ps)) ?_ :);cases ps with
      |nil=>exact⟨hz2,[],rfl,hp,by simp⟩
      |cons p r =>
       refine(j80 (k + 1) 3 hz2 (-0) (-0)).imp λs z3 ⟨hz3,a,e,a1⟩=>?_
       subst e;refine ib (b:=(a:Int) == 0) (λha=>?_) λha=>⟨hz3,p::r,rfl,hp,by omega⟩
       have hll:(((p::r).map pr).length:Int)=((p::r).length:Nat):=by rw[Å]
       refine(j80 (k + 1) (((p::r).map pr).length:Int) hz3 (by rw[hll];simp only[Õ];omega) (by rw[hll];omega)).imp λs z4 ⟨hz4,j,e,b1⟩=>?_
       subst e;have hj:j < (p::r).length:=by rw[hll] at b1;omega
       refine(a00 (g21 (l:=(p::r).map pr) (x:=pr (p::r)[j]) (by rw[ã,Ñ hj];rfl)) ?_ :)
       refine ip ⟨rfl,by rw[Å];simp only[most];omega⟩ ?_
       exact⟨hz4,(p::r)++[(p::r)[j]],(m61 (p:=(p::r)[j])).symm,R50 hp (hp _ (À4 hj)),by rw[E12];omega⟩
     ·rintro ρ z3 ⟨hz3,ps,rfl,hp,hl⟩;have e1:cutD (ps.map pr) none (some mo)=(ps.take mo.toNat).map pr:=by rw[m51 _ h0,List.map_take]
      have mm:(cutD (ps.map pr) none (some mo)).map (λx=>match x with | .tup [.int a,.int b]=>pr (min a b,max a b) | x=>x)=((ps.take mo.toNat).map λp=>(min p.1 p.2,max p.1 p.2)).map pr:=by
       rw[e1,Ü,Ü];rfl
      refine ip (c:=(cutD (ps.map pr) none (some mo)).length<=most) (by rw[e1,Å,Å3];simp only[most];omega) (I00 (λx=>match x with | .tup [.int a,.int b]=>pr (min a b,max a b) | x=>x) (λd hd=>?_) ?_)
      ·rw[e1] at hd;obtain⟨p,hp',rfl⟩:=Ë.mp hd;exact⟨by show D.tup [.int _,.int _]=pr (min p.1 p.2,max p.1 p.2);rw[(Z31 p.1 p.2).1,(Z31 p.1 p.2).2];rfl,rfl⟩
      ·rw[mm];refine(a00 (G91 (l:=(ps.take mo.toNat).map λp=>(min p.1 p.2,max p.1 p.2)) (by rw[Å,Å3];omega)) ?_ :)
       have hperm:=M60 ((ps.take mo.toNat).map λp=>(min p.1 p.2,max p.1 p.2));have hlen:=hperm.length_eq;rw[Å,Å3] at hlen;refine⟨hz3,m,_,rfl,⟨m1,m6,by omega,λq hq=>?_,m21 _⟩,by omega⟩
       obtain⟨p,hp',rfl⟩:=Ë.mp (hperm.mem_iff.mp hq);obtain⟨a0,a1,b0,b1,hab⟩:=hp p (List.mem_of_mem_take hp');dsimp only;omega
theorem S41(hj:0 < j)(hb:big j):C00 .fdiv (.int i) (.int j)=some (.d (.int (i / j))):=by
 show(if 0 < j/\j.natAbs < d21 then some (S.d (.int (i / j))) else none)=_;rw[if_pos ⟨hj,g01 ∅ hb⟩]
theorem g51(i0:0<=i)(hi:big i)(j0:0<=j)(hj:big j):C00 .mul (.int i) (.int j)=some (.d (.int (i * j))):=by
 show(if i.natAbs < d21/\j.natAbs < d21 then some (S.d (.int (i * j))) else none)=_;rw[if_pos ⟨g01 i0 hi,g01 j0 hj⟩]
theorem B50(h:0 < b):0 < ((gcd t b:Nat):Int):=by
 have:=Int.gcd_pos_of_ne_zero_right (a:=t) (b:=b) ∅
 omega
theorem R60(h:0 < b)(hb:big b):big (gcd t b:Int):=Ø1 (le_of_dvd h (Int.gcd_dvd_right t b)) hb
def u10(t b:Int):Int × Int:=(t / gcd t b,b / gcd t b)
theorem I80(k:Nat)(t b:Int)(z:Z)(h0:0 < b)(h1:big b):a70 T (k + 4) E80 [.d (.int t),.d (.int b)] z=some (.ok (.d (pr (u10 t b))) z):=by
 refine W.ok (f40 (ps:=2) (ns:=3) (b:=Q90) rfl rfl (-0) (Wo (n90 k t b z h0 h1) ?_))
 refine(a00 (S41 (i:=t) (B50 (t:=t) h0) (R60 h0 h1)) ?_ :);refine(a00 (S41 (i:=b) (B50 (t:=t) h0) (R60 h0 h1)) ?_ :);exact sd rfl
theorem t01(k:Nat)(t b:Int)(z:Z)(h0:0 < b)(h1:big b):a70 T (k + 3) u60 [.d (.int t),.d (.int b)] z=some (.ok (.d (pr (u10 t b))) z):=by
 refine W.ok (f40 (ps:=2) (ns:=4) (b:=m70) rfl rfl (-0) (l32 (λn ρ z1=>z1=z/\∃ c d:Int,ρ=[some (.d (.int t)),some (.d (.int b)),some (.d (.int c)),some (.d (.int d))]/\GT n c d/\gcd c d=gcd t b/\(d=0->0<=c)) (2 * 4000 + 1) ⟨rfl,_,b,rfl,⟨ü h0,.inl ⟨4000,rfl,h1⟩⟩,?_,λh=>by omega⟩ (-0) ?_))
 ·show gcd (if t < 0 then -t else t) b=_;split
  ·rw[Int.neg_gcd]
  ·rfl
 ·rintro n ρ z1 ⟨rfl,c,d,rfl,g,hg,hc⟩;refine ib (b:=!(d == 0)) (λhd=>?_) λhd=>?_
  ·rw[á,beq_eq_false_iff_ne] at hd;have hd':0 < d:=by have:=g.1;omega
   obtain⟨m,hm,g'⟩:=g.step hd';refine(a00 (S21 (i:=c) hd') ?_ :);exact⟨m,hm,rfl,d,c % d,rfl,g',(G11 c d).trans hg,λ_=>Int.le_of_lt hd'⟩
  ·rw[Ð9,beq_iff_eq] at hd;subst hd;rw[Int.gcd_zero_right] at hg;have e:c=((gcd t b:Nat):Int):=by have:=hc rfl;omega
   subst e;refine(a00 (S41 (i:=t) (B50 (t:=t) h0) (R60 h0 h1)) ?_ :);refine(a00 (S41 (i:=b) (B50 (t:=t) h0) (R60 h0 h1)) ?_ :);exact sd rfl
structure Bd(n:Nat)(c:Int × Int):Prop where
 t0:0<=c.1
 tb:c.1<=c.2
 b0:0 < c.2
 bb:c.2<=2 ^ n
theorem I90(h:n<=3999)(hi:i<=2 ^ n):big i:=by
 refine Ø1 hi ?_;have h2:(2:Nat) ^ n < 2 ^ 4000:=Nat.pow_lt_pow_right (-0) ∅
 have e:((2 ^ n:Nat):Int) < ((2 ^ 4000:Nat):Int):=Int.ofNat_lt.mpr h2
 rwa [Ð1,Ð1] at e
theorem Bd.t(h:Bd n c)(hn:n<=3999):big c.1:=I90 hn (Æ4 h.tb h.bb)
theorem Bd.b(h:Bd n c)(hn:n<=3999):big c.2:=I90 hn h.bb
theorem Bd.mul(hc:Bd n c)(hd:Bd m d):Bd (n + m) (c.1 * d.1,c.2 * d.2):=⟨Ì4 hc.t0 hd.t0,Î7 hc.tb hd.tb hd.t0 (ü hc.b0),Ð2 hc.b0 hd.b0,by
 rw[pow_add];exact Î7 hc.bb hd.bb (ü hd.b0) (Æ4 (ü hc.b0) hc.bb)⟩
theorem S51(k:Nat)(hc:Bd n c)(hd:Bd m d)(hn:n + m<=3999)(z:Z):a70 T (k + 5) F51 [.d (pr c),.d (pr d)] z=some (.ok (.d (pr (u10 (c.1 * d.1) (c.2 * d.2)))) z):=by
 have hm:=hc.mul hd;refine W.ok (f40 (ps:=2) (ns:=2) (b:=f61) rfl rfl (-0) ?_)
 refine(a00 (g51 hc.t0 (hc.t ∅) hd.t0 (hd.t ∅)) ?_ :)
 refine(a00 (g51 (ü hc.b0) (hc.b ∅) (ü hd.b0) (hd.b ∅)) ?_ :)
 exact Wo (I80 k _ _ z hm.b0 (hm.b ∅)) (sd rfl)
theorem m12(k:Nat)(hc:Bd n c)(hd:Bd m d)(hn:n + m<=3998)(z:Z):a70 T (k + 5) Z01 [.d (pr c),.d (pr d)] z=some (.ok (.d (pr (u10 (c.1 * d.2 + d.1 * c.2) (c.2 * d.2)))) z):=by
 have hm:=hc.mul hd;refine W.ok (f40 (ps:=2) (ns:=2) (b:=F61) rfl rfl (-0) ?_)
 refine(a00 (g51 hc.t0 (hc.t ∅) (ü hd.b0) (hd.b ∅)) ?_ :)
 refine(a00 (g51 hd.t0 (hd.t ∅) (ü hc.b0) (hc.b ∅)) ?_ :)
 refine(a00 (g51 (ü hc.b0) (hc.b ∅) (ü hd.b0) (hd.b ∅)) ?_ :)
 exact Wo (I80 k _ _ z hm.b0 (hm.b ∅)) (sd rfl)
theorem m22(k:Nat)(c:Int × Int)(z:Z):a70 T (k + 3) Z11 [.d (pr c)] z=some (.ok (.d (pr (c.2 - c.1,c.2))) z) :=
 W.ok (f40 (ps:=1) (ns:=1) (b:=F71) rfl rfl (-0) (sd rfl))
theorem g61(h0:0 < b):t=gcd t b * (u10 t b).1/\b=gcd t b * (u10 t b).2:=by
 constructor
 ·exact(Int.mul_ediv_cancel' (Int.gcd_dvd_left t b)).symm
 ·exact(Int.mul_ediv_cancel' (Int.gcd_dvd_right t b)).symm
theorem H21(h0:0 < b):gcd (u10 t b).1 (u10 t b).2=1:=Int.gcd_ediv_gcd_ediv_gcd_of_ne_zero_right ∅
theorem g71(h0:0 < b):0 < (u10 t b).2:=by
 have g0:=B50 (t:=t) h0;obtain⟨_,e⟩:=g61 (t:=t) h0;refine Int.pos_of_mul_pos_right (a:=gcd t b) ?_ g0;omega
theorem m32(h0:0 < b)(h1:0<=t)(h2:t<=b):0<=(u10 t b).1/\(u10 t b).1<=(u10 t b).2/\(u10 t b).2<=b:=by
 have g0:=B50 (t:=t) h0;have p0:=g71 (t:=t) h0;obtain⟨e1,e2⟩:=g61 (t:=t) h0;refine⟨Int.ediv_nonneg h1 (ü g0),Int.le_of_mul_le_mul_left (a:=gcd t b) ∅ g0,?_⟩
 have:1 * (u10 t b).2<=(gcd t b:Int) * (u10 t b).2:=Int.mul_le_mul_of_nonneg_right ∅ ∅
 omega
theorem H31(h:gcd a b=1)(hd:b∣a * d):b∣d:=by
 have h1:Nat.Coprime b.natAbs a.natAbs:=by rw[Nat.coprime_comm];exact h
 exact Int.natAbs_dvd_natAbs.mp (h1.dvd_of_dvd_mul_left (by rw[← Int.natAbs_mul];exact Int.natAbs_dvd_natAbs.mpr hd))
theorem t11(hb:0 < b)(hd:0 < d)(h1:gcd a b=1)(h2:gcd c d=1)(h:a * d=c * b):a=c/\b=d:=by
 have k1:b∣d:=H31 h1 ⟨c,by rw[h,Â3]⟩
 have k2:d∣b:=H31 h2 ⟨a,by rw[← h,Â3]⟩
 have e:b=d:=Int.le_antisymm (le_of_dvd hd k1) (le_of_dvd hb k2);subst e;exact⟨Î5 ∅ h,rfl⟩
def IsC(c:Int × Int):Prop:=1<=c.2/\c.2<=1000/\0<=c.1/\c.1<=c.2/\gcd c.1 c.2=1
theorem IsC.ch(h:IsC c):chD (pr c)=true:=by
 obtain⟨h1,h2,h3,h4,h5⟩:=h;show chI c.1 c.2=true;unfold chI;rw[h5,decide_eq_true h1,decide_eq_true h2,decide_eq_true h3,decide_eq_true h4];rfl
theorem m42(h0:0 < b)(hb:b<=1000)(h1:0<=t)(h2:t<=b):IsC (u10 t b):=by
 obtain⟨y0,yx,xb⟩:=m32 h0 h1 h2;have:=g71 (t:=t) h0;exact⟨by omega,by omega,y0,yx,H21 h0⟩
theorem Z50(k:Nat)(hz:ZI z):W (a70 T (k + 4) y80 [.z]) z (λs z1=>ZI z1/\∃ c,s=.d (pr c)/\IsC c) NE:=by
 refine q32 hz (ps:=1) (ns:=3) (b:=p20) rfl rfl (-0) ?_
 refine(j80 k 8 hz (-0) (-0)).imp λs z1 ⟨hz1,v,e,v1⟩=>?_
 subst e;refine ib (b:=decide ((v:Int) < 2)) (λh2=>?_) λh2=>?_
 ·rw[decide_eq_true_eq] at h2;have:v=0∨v=1:=by omega
  rcases this with rfl | rfl
  ·exact⟨hz1,(0,1),rfl,by decide,by decide,by decide,by decide,by decide⟩
  ·exact⟨hz1,(1,1),rfl,by decide,by decide,by decide,by decide,by decide⟩
 ·rw[decide_eq_false_iff_not] at h2;refine(j80 k 12 hz1 (-0) (-0)).imp λs z2 ⟨hz2,a,e,a1⟩=>?_
  subst e;refine(j80 k 1000 hz2 (-0) (-0)).imp λs z3 ⟨hz3,b,e,b1⟩=>?_
  subst e;obtain⟨x,ex,hx⟩:=g41 (L:=[D.int 2,.int 3,.int 4,.int (1 + a),.int (1 + b),.int 1000]) (n:=v - 2) (btw 1 1000) (by simp only[Õ,Ã9];omega) (by
   simp only[Ã6,all_nil,Æ8,À];refine⟨rfl,rfl,rfl,Z30 ?_ ?_,Z30 ?_ ?_,rfl⟩ <;> omega)
  obtain⟨u,rfl,u1,u2⟩:=H01 hx;have e2:(v:Int) - 2=((v - 2:Nat):Int):=by omega
  refine(a00 (o:=T90 (.lst [D.int 2,.int 3,.int 4,.int (1 + a),.int (1 + b),.int 1000]) (.int ((v:Int) - 2))) (a:=.int u) (by rw[e2];exact g21 ex) ?_ :)
  refine(j80 k (u + 1) hz3 ∅ ∅).imp λs z4 ⟨hz4,t,e,t1⟩=>?_
  subst e;exact Wo (t01 k _ _ _ ∅ (y90 ∅)) ⟨hz4,u10 t u,rfl,m42 ∅ u2 ∅ ∅⟩
theorem R70(k:Nat){m:Int}{ts:List D}{z:Z}(hz:ZI z)(hl:ts.length<=8):W (a70 T (k + 5) u70 [.z,.d (.tup [.int m,.tup ts])]) z (λs z1=>ZI z1/\∃ cs:List (Int × Int),s=.d (.tup (cs.map pr))/\cs.length=ts.length/\∀ c∈cs,IsC c) NE:=by
 refine q32 hz (ps:=2) (ns:=2) (b:=m80) rfl rfl (-0) (ip (h40 ∅) (T32 (I:=ZI) (P:=λ_ y=>∃ c,y=pr c/\IsC c) hz (λx hx z1 hz1=>?_) λys z1 hz1 hp=>?_))
 ·refine(Z50 k hz1).imp λs z2 ⟨hz2,c,e,hc⟩=>?_;subst e;exact⟨hz2,c,rfl,hc⟩
 ·obtain⟨cs,rfl,hl,ha⟩:=Z40 hp;exact⟨hz1,cs,rfl,hl,ha⟩
theorem Z41{cs:List (Int × Int)}{n:Nat}(h:cs.length=n)(ha:∀ c∈cs,IsC c):D82 n (.tup (cs.map pr))=true:=by
 unfold D82;rw[À,beq_iff_eq,Å,Á1];refine⟨h,λd hd=>?_⟩;obtain⟨c,hc,rfl⟩:=Ë.mp hd;exact(ha c hc).ch
def ltP:D->Bool
 |.tup [.int a,.int b]=>decide (a < b)|_=>false
def u51(l:List D):Bool:=(A60 l (l.drop 1)).all ltP
def T42(m:Int):D->Bool
 |.tup l=>(l.all (λx=>d40 x m)&&u51 l)&&!l.isEmpty|_=>false
def short:D->Bool
 |.tup l=>decide (l.length<=1000)|_=>true
theorem S61(k:Nat)(h:∀ x∈l,d40 x m=true)(hl:l.length<=1000)(z:Z):a70 T (k + 3) Q70 [.d (.tup l)] z=some (.ok (.d (.bl (u51 l))) z):=by
 have e1:cutD l (some 1) none=l.drop 1:=t20 l 1;refine W.ok (f40 (ps:=1) (ns:=1) (b:=R20) rfl rfl (-0) (ip (c:=(A60 l (cutD l (some 1) none)).length<=most) (Ù (E90 _ _) (h40 hl)) (I00 (λx=>.bl (ltP x)) (λx hx=>?_) (a00 (u80 _ ltP) ?_ :))))
 ·obtain⟨u,hu,v,hv,rfl⟩:=f81 hx;rw[e1] at hv;obtain⟨i,rfl,_⟩:=n80 (h u hu);obtain⟨j,rfl,_⟩:=n80 (h v (Ó3 hv));exact⟨rfl,rfl⟩
 ·exact sb (b:=(A60 l (cutD l (some 1) none)).all ltP) (by rw[e1];rfl)
theorem D20(k:Nat)(m:Int)(hs:short x=true)(z:Z):a70 T (k + 5) h80 [.d x,.d (.int m)] z=some (.ok (.d (.bl (match x with | .tup l=>l.all (λx=>d40 x m)&&u51 l | _=>false))) z):=by
 refine W.ok (f40 (ps:=2) (ns:=2) (b:=i00) rfl rfl (-0) ?_)
 cases x with
 |tup l =>
  have hl:l.length<=1000:=of_decide_eq_true hs;refine ip (h40 hl) (I00 (λx=>.bl (d40 x m)) (λx _=>Wo (w40 k x m z) ⟨rfl,rfl⟩) (a00 (u80 l λx=>d40 x m) ?_ :));refine ib (b:=l.all λx=>d40 x m) (λh=>?_) λh=>sb (show false=(l.all (λx=>d40 x m)&&u51 l) by rw[h];rfl)
  exact Wo (S61 (k + 1) (ä.mp h) hl z) (sb (show u51 l=(l.all (λx=>d40 x m)&&u51 l) by rw[h];rfl))
 |_=>exact sb rfl
theorem e40(k:Nat)(z:Z)(h:T42 m x=true)(hs:short x=true):a70 T (k + 6) d80 [.d (.tup [.int m,t]),.d x] z=some (.ok (.d .non) z):=by
 refine W.ok (f40 (ps:=2) (ns:=2) (b:=m40) rfl rfl (-0) (Wo (D20 k m hs z) ?_))
 cases x with
 |tup l =>
  have h:((l.all (λx=>d40 x m)&&u51 l)&&!l.isEmpty)=true:=h;rw[À] at h;refine ie (b:=!(l.all (λx=>d40 x m)&&u51 l)) (by rw[h.1];rfl) ?_
  cases l with
  |nil=>cases h.2
  |cons y r=>exact sd rfl
 |_=>cases h
def a60(n:Nat):D:=.int n
structure g90(m:Int)(l:List Nat):Prop where
 ne:l≠[]
 up:l.Pairwise (· < ·)
 lt:∀ p∈l,(p:Int) < m
theorem H41:∀ {l:List Nat},l.Pairwise (· < ·)->u51 (l.map a60)=true
 |[],_=>rfl|[_],_=>rfl
 |a::b::r,h=>by
  have ih:=H41 (Õ7.of_cons h);show(decide ((a:Int) < (b:Int))&&u51 ((b::r).map a60))=true;rw[ih,decide_eq_true (by have:=(À9.mp h).1 b Ç;omega)];rfl
theorem g90.pls(g:g90 m l):T42 m (.tup (l.map a60))=true:=by
 show(((l.map a60).all (λx=>d40 x m)&&u51 (l.map a60))&&!(l.map a60).isEmpty)=true;rw[H41 g.up,Æ8,À];refine⟨ä.mpr λx hx=>?_,?_⟩
 ·obtain⟨p,hp,rfl⟩:=Ë.mp hx;have:=g.lt p hp;show(decide (0<=(p:Int))&&decide ((p:Int) < m))=true;rw[decide_eq_true this,decide_eq_true ∅];rfl
 ·cases l with
  |nil=>exact absurd rfl g.ne|cons _ _=>rfl
theorem g90.len(g:g90 m l)(h6:m<=6):l.length<=6:=by
 have:l.Sublist (Ø 6):=by
  have e:l=(Ø 6).filter λx=>l.contains x:=by
   refine Í6 (le:=(· < ·)) ?_ g.up (À6 _ Ä8) ?_
   ·intro a b _ _ h1 h2;omega
   ·refine(Å8 (g.up.imp λh e=>by omega) (À6 _ Ô4)).mpr λa=>?_
    rw[Æ9,Ì6,Ì8];exact⟨λh=>⟨by have:=g.lt a h;omega,h⟩,λh=>h.2⟩
  rw[e];exact List.filter_sublist
 simpa using this.length_le
theorem S71:∀ {ys:List D}{l:List Nat},ys.Sublist (l.map a60)->∃ l':List Nat,ys=l'.map a60/\l'.Sublist l:=λ{ys l} h=>by
 obtain⟨l',h1,h2⟩:=List.sublist_map_iff.mp h;exact⟨l',h2,h1⟩
theorem m52(n:Nat):((Ø n).map λ(i:Nat)=>D.int i)=(Ø n).map a60:=rfl
theorem T52(a b:Int):MySort.f10 [a] [b]=decide (a < b):=by
 show(if a=b then false else decide (a < b))=_;by_cases h:a=b
 ·rw[if_pos h,h];simp
 ·rw[if_neg h]
theorem S81(a b:Nat):k30 (a60 a) (a60 b)=true:=by
 show(true&&((some (decide ((a:Int) < b)) == some (MySort.f10 [(a:Int)] [(b:Int)]))&&(((a:Int) == b) || !([(a:Int)] == [(b:Int)]))))=true;rw[T52,beq_self_eq_true,Ä0,Ä0];by_cases h:(a:Int)=b <;> simp[h]
theorem Z60(k:Nat)(m1:1<=m)(m6:m<=6)(hz:ZI z):W (a70 T (k + 4) y70 [.z,.d (.tup [.int m,t])]) z (λs z1=>ZI z1/\∃ l,s=.d (.tup (l.map a60))/\g90 m l) NE:=by
 refine q32 hz (ps:=2) (ns:=3) (b:=p10) rfl rfl (-0) ?_
 refine(a00 (K60 (m:=m) ∅ ∅) ?_ :)
 refine ip (by rw[Å,ê];simp only[most];omega) (D52 (I:=ZI) (λx=>x) hz (λx hx z1 hz1=>?_) λys z1 hz1 hs=>?_)
 ·refine(j80 k 2 hz1 (-0) (-0)).imp λs z2 ⟨hz2,a,e,a1⟩=>?_
  subst e;exact⟨hz2,(a:Int) == 0,rfl,λ_=>⟨rfl,rfl⟩⟩
 ·rw[map_id',m52] at hs;obtain⟨l,rfl,hl⟩:=S71 hs;have up:l.Pairwise (· < ·):=Õ7.sublist hl Ä8;have lt:∀ p∈l,(p:Int) < m:=λp hp=>by have:=é.mp (hl.mem hp);omega
  have g1:∀ p:Nat,(p:Int) < m->g90 m [p]:=λp hp=>⟨by simp,.cons (λ_ h=>nomatch h) .nil,λq hq=>by rw[ù.mp hq];exact hp⟩
  have g2:g90 m (Ø m.toNat):=⟨by intro h;have:=congrArg Ú6 h;rw[ê] at this;simp at this;omega,Ä8,λp hp=>by have:=é.mp hp;omega⟩
  have fin:∀ (L:List D) (v:Nat) (z2:Z),L.length=3->v < 3->ZI z2->(∀ x∈L,∃ l,x=.tup (l.map a60)/\g90 m l)->∃ x,T90 (.lst L) (.int v)=some x/\(ZI z2/\∃ l,S.d x=.d (.tup (l.map a60))/\g90 m l):=λL v z2 h3 hv hz2 h=>by
   have hlt:v < L.length:=by omega
   obtain⟨l,e,g⟩:=h _ (À4 hlt);exact⟨L[v],g21 (Ñ hlt),hz2,l,by rw[e],g⟩
  have e1:(m - 1)=((m.toNat - 1:Nat):Int):=by omega
  cases l with
  |nil =>
   refine(a00 (K60 (m:=m) ∅ ∅) ?_ :)
   refine(j80 k 3 hz1 (-0) (-0)).imp λs z2 ⟨hz2,v,e,v1⟩=>?_
   subst e;obtain⟨x,ex,q⟩:=fin [.tup [.int 0],.tup ((Ø m.toNat).map λ(i:Nat)=>D.int i),.tup [.int (m - 1)]] v z2 rfl ∅ hz2 λx hx=>by
    simp only[Á8,Ã1,or_false] at hx;rcases hx with rfl | rfl | rfl
    ·exact⟨[0],rfl,g1 0 ∅⟩
    ·exact⟨_,rfl,g2⟩
    ·exact⟨[m.toNat - 1],by rw[e1];rfl,g1 _ ∅⟩
   refine(a00 ex ?_ :);exact q
  |cons p r =>
   refine(a00 (K60 (m:=m) ∅ ∅) ?_ :)
   refine(j80 k 3 hz1 (-0) (-0)).imp λs z2 ⟨hz2,v,e,v1⟩=>?_
   subst e;obtain⟨x,ex,q⟩:=fin [.tup ((p::r).map a60),.tup ((Ø m.toNat).map λ(i:Nat)=>D.int i),.tup ((p::r).map a60)] v z2 rfl ∅ hz2 λx hx=>by
    simp only[Á8,Ã1,or_false] at hx;rcases hx with rfl | rfl | rfl
    ·exact⟨_,rfl,by simp,up,lt⟩
    ·exact⟨_,rfl,g2⟩
    ·exact⟨_,rfl,by simp,up,lt⟩
   refine(a00 ex ?_ :);exact q
section
variable (ps:List (Int × Int))
abbrev tA(n:Nat):Nat:=(ps.getD n (0,0)).1.toNat
abbrev tB(n:Nat):Nat:=(ps.getD n (0,0)).2.toNat
def j40(mk:List Int)(n:Nat):List Int:=mk.map λx=>if x=mk.getD (tB ps n) 0 then mk.getD (tA ps n) 0 else x
def f90(m:Nat)(lot:List Nat):List Int:=lot.foldl (j40 ps) ((Ø m).map λ(i:Nat)=>(i:Int))
def H51(mk:List Int)(pl:List Nat):Bool:=pl.all λp=>mk.getD p 0 == mk.getD (pl.getD 0 0) 0
def b40(m:Nat)(pl lot:List Nat):Bool:=H51 (f90 ps m lot) pl
variable {ps}
theorem z10(mk:List Int)(n:Nat):(j40 ps mk n).length=mk.length:=Å _
theorem step_get(h:x < mk.length):(j40 ps mk n).getD x 0=if mk.getD x 0=mk.getD (tB ps n) 0 then mk.getD (tA ps n) 0 else mk.getD x 0:=by
 unfold j40;rw[Ó,ã,Ñ h];simp[Ó,Ñ h]
theorem J00:(f90 ps m lot).length=m:=by
 unfold f90;have:∀ (l:List Nat) (mk:List Int),(l.foldl (j40 ps) mk).length=mk.length:=by
  intro l
  induction l with
  |nil=>intro mk;rfl|cons n r ih=>intro mk;rw[Ê6,ih,z10]
 rw[this];simp
theorem t21(hr:∀ n < ps.length,tA ps n < m/\tB ps n < m):∀ (lot:List Nat) (mk:List Int),mk.length=m->(∀ n∈lot,n < ps.length) ->
  (∀ x y,x < m->y < m->mk.getD x 0=mk.getD y 0->(lot.foldl (j40 ps) mk).getD x 0=(lot.foldl (j40 ps) mk).getD y 0)/\(∀ n∈lot,(lot.foldl (j40 ps) mk).getD (tA ps n) 0=(lot.foldl (j40 ps) mk).getD (tB ps n) 0) /\
  ∀ f:Nat->Int,(∀ x y,x < m->y < m->mk.getD x 0=mk.getD y 0->f x=f y)->(∀ n∈lot,f (tA ps n)=f (tB ps n))->∀ x y,x < m->y < m->(lot.foldl (j40 ps) mk).getD x 0=(lot.foldl (j40 ps) mk).getD y 0->f x=f y:=by
 intro lot
 induction lot with
 |nil=>exact λmk _ _=>⟨λ_ _ _ _ h=>h,(λ_ h=>nomatch h),λf h _=>h⟩
 |cons n r ih =>
  intro mk hl hn;obtain⟨ha,hb⟩:=hr n (hn n Ç);obtain⟨i1,i2,i3⟩:=ih (j40 ps mk n) (by rw[z10];exact hl) λk hk=>hn k (É _ hk)
  have st:∀ x,x < m->(j40 ps mk n).getD x 0=if mk.getD x 0=mk.getD (tB ps n) 0 then mk.getD (tA ps n) 0 else mk.getD x 0:=λx hx=>step_get ∅
  refine⟨λx y hx hy h=>i1 x y hx hy (by rw[st x hx,st y hy,h]),λk hk=>?_,λf h1 h2=>?_⟩
  ·rcases à.mp hk with rfl | hk
   ·refine i1 _ _ ha hb ?_;rw[st _ ha,st _ hb,if_pos rfl];split <;> rfl
   ·exact i2 k hk
  ·refine i3 f (λx y hx hy h=>?_) λk hk=>h2 k (É _ hk);have e:=h2 n Ç;rw[st x hx,st y hy] at h;split at h
   ·rename_i hxb;have fx:=h1 _ _ hx hb hxb;split at h
    ·rename_i hyb;rw[fx,h1 _ _ hy hb hyb]
    ·rw[fx,← e];exact h1 _ _ ha hy h
   ·split at h
    ·rename_i hyb;rw[h1 _ _ hy hb hyb,← e];exact h1 _ _ hx ha h
    ·exact h1 _ _ hx hy h
theorem Z70(h:x < m):(((Ø m).map λ(i:Nat)=>(i:Int))).getD x 0=(x:Int):=by
 rw[Ó,ã,Õ1 h];rfl
theorem p40{m:Nat}(hr:∀ n < ps.length,tA ps n < m/\tB ps n < m){pl lot:List Nat}(hp:∀ p∈pl,p < m)(hl:∀ n∈lot,n < ps.length):b40 ps m pl lot=true↔∀ f:Nat->Int,(∀ n∈lot,f (tA ps n)=f (tB ps n))->∀ p∈pl,f p=f (pl.getD 0 0):=by
 obtain⟨_,h2,h3⟩:=t21 hr lot ((Ø m).map λ(i:Nat)=>(i:Int)) (by simp) hl
 unfold b40 H51;rw[Á1];have h0:∀ p∈pl,pl.getD 0 0 < m:=λp hp'=>by
  cases pl with
  |nil=>cases hp'
  |cons q r=>exact hp q Ç
 constructor
 ·intro h f hf p hp';refine h3 f (λx y hx hy e=>?_) hf p _ (hp p hp') (h0 p hp') (beq_iff_eq.mp (h p hp'));rw[Z70 hx,Z70 hy] at e;rw[Int.ofNat_inj.mp e]
 ·intro h p hp';rw[beq_iff_eq];exact h (λx=>(f90 ps m lot).getD x 0) h2 p hp'
theorem good_mono{m:Nat}(hr:∀ n < ps.length,tA ps n < m/\tB ps n < m){pl a b:List Nat}(hp:∀ p∈pl,p < m)(hb:∀ n∈b,n < ps.length)(hab:∀ n∈a,n∈b)(h:b40 ps m pl a=true):b40 ps m pl b=true :=
 (p40 hr hp hb).mpr λf hf=>(p40 hr hp λn hn=>hb n (hab n hn)).mp h f λn hn=>hf n (hab n hn)
end
section
variable (g:List Nat->Bool) (c:Nat->Int × Int)
def tot:List Nat->List Nat->Int
 |[],h=>if g h then 1 else 0|n::r,h=>(c n).1 * tot r (n::h) + ((c n).2 - (c n).1) * tot r h
def Z51(ns:List Nat):Int:=(ns.map λn=>(c n).2).foldr (· * ·) 1
variable {g c}
theorem H61(n:Nat)(r:List Nat):Z51 c (n::r)=(c n).2 * Z51 c r:=rfl
def G72(N:Nat)(g:List Nat->Bool):Prop:=∀ a b:List Nat,(∀ n∈a,n < N)->(∀ n∈b,n < N)->(∀ n,n∈a↔n∈b)->g a=g b
theorem R80(hg:G72 N g):∀ (ns a b:List Nat),(∀ n∈ns,n < N)->(∀ n∈a,n < N)->(∀ n∈b,n < N)->(∀ n,n∈a↔n∈b)->tot g c ns a=tot g c ns b
 |[],a,b,_,ha,hb,h=>by unfold tot;rw[hg a b ha hb h]
 |n::r,a,b,hn,ha,hb,h=>by
  have hr:∀ k∈r,k < N:=λk hk=>hn k (É _ hk);have hc:∀ {l:List Nat},(∀ n∈l,n < N)->∀ k∈n::l,k < N:=λhl k hk=>by
   rcases à.mp hk with rfl | hk
   ·exact hn _ Ç
   ·exact hl k hk
  unfold tot;rw[R80 hg r a b hr ha hb h,R80 hg r (n::a) (n::b) hr (hc ha) (hc hb) λk=>by rw[Á8,Á8,h k]]
theorem S91(hg:G72 N g)(h:a.Perm b):∀ held:List Nat,(∀ n∈a,n < N)->(∀ n∈held,n < N)->tot g c a held=tot g c b held:=by
 induction h with
 |nil=>exact λ_ _ _=>rfl
 |cons x h ih =>
  intro held ha hh;have hr:=λk hk=>ha k (É _ hk);unfold tot;rw[ih held hr hh,ih (x::held) hr λk hk=>by
   rcases à.mp hk with rfl | hk
   ·exact ha _ Ç
   ·exact hh k hk]
 |swap x y l =>
  intro held ha hh;have hl:∀ k∈l,k < N:=λk hk=>ha k (É _ (É _ hk));have hx:=ha x (É _ Ç);have hy:=ha y Ç;have hxy:∀ k∈[x,y]++held,k < N:=λk hk=>by
   simp only[Ô7,Ì3,Á8] at hk;rcases hk with rfl | rfl | hk
   ·exact hx
   ·exact hy
   ·exact hh k hk
  have e:=R80 (c:=c) hg l (x::y::held) (y::x::held) hl hxy (λk hk=>hxy k (by simp only[Ô7,Ì3,Á8] at hk ⊢;rcases hk with h | h | h <;> simp[h])) λk=>by simp only[Á8];constructor <;> (rintro (h | h | h) <;> simp[h])
  simp only[tot];rw[e];generalize tot g c l (y::x::held)=t1;generalize tot g c l (y::held)=t2;generalize tot g c l (x::held)=t3;generalize tot g c l held=t4;generalize (c x).1=p;generalize (c x).2=q;generalize (c y).1=u;generalize (c y).2=v
  grind
 |trans h1 h2 i1 i2=>exact λheld ha hh=>(i1 held ha hh).trans (i2 held (λk hk=>ha k (h1.mem_iff.mpr hk)) hh)
def a40:Nat->List (List Nat)
 |0=>[[]]|j + 1=>a40 j++(a40 j).map (·++[j])
def amt(c:Nat->Int × Int)(j:Nat)(lot:List Nat):Int:=(Ø j).foldl (λa n=>a * (if n∈lot then(c n).1 else(c n).2 - (c n).1)) 1
theorem k00:amt c (j + 1) lot=amt c j lot * (if j∈lot then(c j).1 else(c j).2 - (c j).1):=by
 unfold amt;rw[range_succ,Ø7];rfl
theorem H71(h:j<=k):amt c j (lot++[k])=amt c j lot:=by
 induction j with
 |zero=>rfl
 |succ j ih =>
  rw[k00,k00,ih ∅]
  have:j∈lot++[k]↔j∈lot:=by rw[Ç7,ð];constructor <;> (intro h;first | (rcases h with h | h;exact h;omega) | exact .inl h)
  simp only[this]
theorem b60:∀ {j:Nat}{lot:List Nat},lot∈a40 j->∀ n∈lot,n < j
 |0,lot,h,n,hn=>by rw[ù.mp h] at hn;cases hn
 |j + 1,lot,h,n,hn=>by
  rcases ó.mp h with h | h
  ·exact Í0 (b60 h n hn)
  ·obtain⟨l,hl,rfl⟩:=Ë.mp h;rcases ó.mp hn with hn | hn
   ·exact Í0 (b60 hl n hn)
   ·rw[ù.mp hn];exact Ú4 j
def desc:Nat->List Nat
 |0=>[]|j + 1=>j::desc j
def i70(l:List (List Nat))(f:List Nat->Int):Int:=(l.map f).foldr (· + ·) 0
theorem m71:i70 (a++b) f=i70 a f + i70 b f:=by
 unfold i70;rw[Â1]
 induction a with
 |nil=>simp|cons x r ih=>simp only[È1,Ô7,List.foldr_cons,ih,Int.add_assoc]
theorem F00(e:∀ x∈a,h x=k * f x):i70 a h=k * i70 a f:=by
 unfold i70
 induction a with
 |nil=>simp|cons x r ih=>simp only[È1,List.foldr_cons,ih λy hy=>e y (É _ hy),e x Ç,Int.mul_add]
theorem m81:i70 (a.map t) f=i70 a λx=>f (t x):=by
 unfold i70;rw[Ü];rfl
theorem R90(hg:G72 N g):∀ (j:Nat) (held:List Nat),j<=N->(∀ n∈held,n < N)->i70 (a40 j) (λlot=>if g (lot++held) then amt c j lot else 0)=tot g c (desc j) held
 |0,held,_,_=>by
  show(if g ([]++held) then amt c 0 [] else 0) + 0=_;rw[add_zero];rfl
 |j + 1,held,hj,hh=>by
  have hc:∀ k∈j::held,k < N:=λk hk=>by
   rcases à.mp hk with rfl | hk
   ·omega
   ·exact hh k hk
  show i70 (a40 j++(a40 j).map (·++[j])) _=(c j).1 * tot g c (desc j) (j::held) + ((c j).2 - (c j).1) * tot g c (desc j) held;rw[m71,m81,← R90 hg j held ∅ hh,← R90 hg j (j::held) ∅ hc,Int.add_comm]
  congr 1
  ·refine F00 λlot hl=>?_;have lt:=b60 hl;have e:g (lot++[j]++held)=g (lot++j::held):=by rw[Ä1];rfl
   rw[e];split
   ·rw[k00,H71 (Ê j),if_pos (by simp),Â3]
   ·rw[Int.mul_zero]
  ·refine F00 λlot hl=>?_;have lt:=b60 hl;split
   ·rw[k00,if_neg (λh=>À1 _ (lt j h)),Â3]
   ·rw[Int.mul_zero]
theorem Z80:∀ n:Nat,(desc n).Perm (Ø n)
 |0=>.refl _
 |n + 1=>by
  rw[range_succ];exact((Z80 n).cons n).trans (Ü5 n (Ø n)).symm
end
theorem itE{it:It}{e:Ex}{l:List S}{ρ:Env}(h:W50 l=true):A01 it e l ρ=W60 it e l ρ:=by unfold A01;rw[h,W40];rfl
theorem i10:∀ l:List Nat,h20 (l.map a60)=true
 |[]=>rfl|_::r=>i10 r
structure Row(x:D)(lot:List Nat):Prop where
 sq:d31 x=some (lot.map a60)
 br:f62 x=true
theorem Row.t(lot:List Nat):Row (.tup (lot.map a60)) lot:=⟨rfl,i10 lot⟩
theorem Row.ba(h:Row x lot):W50 [.d x]=true:=by
 show(f62 x&&true)=true;rw[h.br];rfl
theorem H81{mk:List Int}{a:Int}(h0:0<=a)(h:a.toNat < mk.length):T90 (.lst (mk.map D.int)) (.int a)=some (.int (mk.getD a.toNat 0)):=by
 obtain⟨n,rfl⟩:=Ê7 h0;rw[Á3] at h ⊢;rw[Ó,Ñ h];exact g21 (B40 h)
theorem Z61{ps:List (Int × Int)}{n:Nat}(h:n < ps.length):T90 (.tup (ps.map pr)) (.int n)=some (pr (ps.getD n (0,0))):=by
 rw[Ó,Ñ h];exact g31 (by rw[ã,Ñ h];rfl)
theorem getD_mem{ps:List (Int × Int)}{n:Nat}(h:n < ps.length):ps.getD n (0,0)∈ps:=by
 rw[Ó,Ñ h];exact À4 h
theorem c30.rng{m:Int}{ps:List (Int × Int)}(g:c30 m ps):∀ n < ps.length,tA ps n < m.toNat/\tB ps n < m.toNat:=λn hn=>by
 have:=g.tie _ (getD_mem hn);unfold tA tB;omega
def T62(a b:Int):D->D
 |.int v=>.int (if v=b then a else v)|x=>x
theorem m62{F:FT}{z:Z}{mk:List Int}(a b:Int){Q:List D->Z->Prop}{E:Nat->Z->Prop}(q:Q ((mk.map λx=>if x=b then a else x).map D.int) z):W (turns (t60 (ev F .nil) (ev F (.ite (.cmp .eq (.var 0) (.var 2)) (.var 1) (.var 0))) (.v 0) [none,some (.d (.int a)),some (.d (.int b))]) (mk.map D.int)) z Q E:=by
 refine I00 (T62 a b) (λx hx=>?_) ?_
 ·obtain⟨v,_,rfl⟩:=Ë.mp hx;refine ib (b:=v == b) (λh=>⟨?_,rfl⟩) λh=>⟨?_,rfl⟩
  ·show D.int a=.int (if v=b then a else v);rw[if_pos (beq_iff_eq.mp h)]
  ·show D.int v=.int (if v=b then a else v);rw[if_neg (by simpa using h)]
 ·have e:(mk.map D.int).map (T62 a b)=(mk.map λx=>if x=b then a else x).map D.int:=by rw[Ü,Ü];rfl
  rw[e];exact q
theorem g81(k:Nat){m:Int}{ps:List (Int × Int)}(g:c30 m ps){x:D}{lot:List Nat}(hx:Row x lot)(hl:∀ n∈lot,n < ps.length)(z:Z):a70 T (k + 3) M00 [.d (D10 m ps),.d x] z=some (.ok (.fr ((f90 ps m.toNat lot).map D.int)) z):=by
 have m6:=g.m6;have m1:=g.m1;refine W.ok (f40 (ps:=2) (ns:=10) (b:=B00) rfl rfl (-0) ?_)
 refine(a00 (o:=lrD [.int m]) (K60 ∅ ∅) ?_ :)
 refine a00 (o:=d31 x) hx.sq ?_;refine H90 (λxs ρ z1=>z1=z/\∃ (rest:List Nat) (mk:List Int) (o5 o6 o7 o8 o9:Option S),xs=rest.map a60/\(∀ n∈rest,n < ps.length)/\mk.length=m.toNat/\rest.foldl (j40 ps) mk=f90 ps m.toNat lot/\ρ=[some (.d (D10 m ps)),some (.d x),some (.d (.int m)),some (.d (.tup (ps.map pr))),some (.fr (mk.map D.int)),o5,o6,o7,o8,o9]) _ ⟨rfl,lot,(Ø m.toNat).map λ(i:Nat)=>(i:Int),none,none,none,none,none,rfl,hl,by simp,rfl,(itE hx.ba).trans ?_⟩ ?_ ?_
 ·rw[← m01];rfl
 ·rintro y r ρ z1 ⟨rfl,rest,mk,o5,o6,o7,o8,o9,e,hr,hm,hf,rfl⟩;cases rest with
  |nil=>cases e
  |cons n rest =>
   cases e;have hn:=hr n Ç;have ht:=g.tie _ (getD_mem hn);refine(a00 (Z61 hn) ?_ :);refine(a00 (H81 (mk:=mk) ht.1 ∅) ?_ :)
   refine(a00 (H81 (mk:=mk) (a:=(ps.getD n (0,0)).2) ∅ ∅) ?_ :)
   refine ip (by rw[Å];simp only[most];omega) (m62 _ _ ?_)
   exact⟨rfl,rest,j40 ps mk n,_,_,_,_,_,rfl,λk hk=>hr k (É _ hk),by rw[z10];exact hm,hf,rfl⟩
 ·rintro ρ z1 ⟨rfl,rest,mk,o5,o6,o7,o8,o9,e,hr,hm,hf,rfl⟩;cases rest with
  |nil=>exact sd (by rw[← hf];rfl)|cons _ _=>cases e
section
variable {m:Int}{ps:List (Int × Int)}{pl lot:List Nat}
theorem E22{mk:List Int}{p:Nat}(h:p < mk.length):T90 (.lst (mk.map D.int)) (.int p)=some (.int (mk.getD p 0)):=H81 (a:=(p:Int)) ∅ (by rw[Á3];exact h)
theorem E32(h:pl≠[]):T90 (.tup (pl.map a60)) (.int 0)=some (a60 (pl.getD 0 0)):=by
 cases pl with
 |nil=>exact absurd rfl h|cons p r=>exact g31 (j:=0) rfl
theorem g90.p0(hp:g90 m pl):pl.getD 0 0 < m.toNat:=by
 have h:=hp.ne;have h2:=hp.lt;cases pl with
 |nil=>exact absurd rfl h|cons p r=>have:=h2 p Ç;show p < _;omega
def eqM(mk:List Int)(p0:Nat):D->Bool
 |.int p=>mk.getD p.toNat 0 == mk.getD p0 0|_=>false
theorem m72(l:List Nat):(l.map a60).all (eqM mk p0)=l.all λp=>mk.getD p 0 == mk.getD p0 0:=by rw[all_map];rfl
theorem b90(k:Nat)(g:c30 m ps)(hp:g90 m pl){x:D}(hx:Row x lot)(hl:∀ n∈lot,n < ps.length)(z:Z):a70 T (k + 4) f80 [.d (D10 m ps),.d x,.d (.tup (pl.map a60))] z=some (.ok (.d (.bl (b40 ps m.toNat pl lot))) z):=by
 have hlen:=hp.len g.m6;refine W.ok (f40 (ps:=3) (ns:=4) (b:=r30) rfl rfl (-0) (Wo (g81 k g hx hl z) ?_))
 have ml:(f90 ps m.toNat lot).length=m.toNat:=J00;generalize hmk:f90 ps m.toNat lot=mk at ml;refine ip (by rw[Å];simp only[most];omega) (I00 (λx=>.bl (eqM mk (pl.getD 0 0) x)) (λy hy=>?_) (a00 (u80 _ (eqM mk (pl.getD 0 0))) ?_ :))
 ·obtain⟨p,hp',rfl⟩:=Ë.mp hy;have:=hp.lt p hp';refine(a00 (E22 (mk:=mk) (p:=p) ∅) ?_ :)
  refine(a00 (E32 hp.ne) ?_ :);refine(a00 (E22 (mk:=mk) (by rw[ml];exact hp.p0)) ?_ :)
  exact⟨rfl,rfl⟩
 ·refine sb (b:=(pl.map a60).all (eqM mk (pl.getD 0 0))) ?_;rw[m72,← hmk];rfl
theorem m91(l:List Nat)(f:D->Bool):(l.map a60).filter f=(l.filter λn=>f (a60 n)).map a60:=Î8 ..
end
def b50(l:List Nat):D:=.tup (l.map a60)
theorem m00:∀ {j:Nat}{lot:List Nat},lot∈a40 j->lot.length<=j
 |0,lot,h=>by rw[ù.mp h];exact Ê _
 |j + 1,lot,h=>by
  rcases ó.mp h with h | h
  ·exact Nat.le_succ_of_le (m00 h)
  ·obtain⟨l,hl,rfl⟩:=Ë.mp h;rw[E12];exact Ú3 (m00 hl)
theorem F10:∀ j:Nat,(a40 j).length=2 ^ j
 |0=>rfl
 |j + 1=>by
  show(a40 j++(a40 j).map (·++[j])).length=_;rw[ö,Å,F10 j,pow_succ];omega
theorem S00(h:j<=8):2 ^ j<=256:=É4 (n:=2) (-0) h
theorem add_l(h:a.length + b.length<=1000):C00 .add (.lst a) (.lst b)=some (.fr (a++b)):=by
 show(if a.length + b.length<=most then some (S.fr (a++b)) else none)=_;rw[if_pos (h40 h)]
theorem H91(h:a.length + b.length<=1000):C00 .add (.tup a) (.tup b)=some (.d (.tup (a++b))):=by
 show(if a.length + b.length<=most then some (S.d (.tup (a++b))) else none)=_;rw[if_pos (h40 h)]
def T72(j:Nat):D->D
 |.tup l=>.tup (l++[a60 j])|x=>x
theorem T01:((a40 j).map b50).map (T72 j)=((a40 j).map (·++[j])).map b50:=by
 rw[Ü,Ü];refine Á9 λl _=>?_;show D.tup (l.map a60++[a60 j])=.tup ((l++[j]).map a60);rw[Â1];rfl
theorem S10{n:Nat}(h:n < 100000):itD .rng1 [.int n]=some ((Ã8 0 n).map a60):=by
 rw[K60 ∅ ∅,Á3,È0];rfl
abbrev cf(cs:List (Int × Int))(n:Nat):Int × Int:=cs.getD n (0,1)
def c60(cs:List (Int × Int)):Int:=(cs.map (·.2)).foldr (· * ·) 1
theorem I01:Z51 (cf cs) (Ø cs.length)=c60 cs:=by
 unfold Z51 c60
 congr 1
 refine List.ext_getElem (by simp) λi h1 h2=>?_
 have hi:i < cs.length:=by simpa using h1
 simp[Ó,Ñ hi]
theorem B60:∀ {cs:List (Int × Int)},(∀ c∈cs,IsC c)->0 < c60 cs/\c60 cs<=2 ^ (10 * cs.length)
 |[],_=>by decide
 |c::r,h=>by
  obtain⟨h1,h2⟩:=B60 λd hd=>h d (É _ hd);obtain⟨c1,c2,_⟩:=h c Ç;refine⟨Ð2 (show(0:Int) < c.2 by omega) h1,?_⟩
  show c.2 * c60 r<=_;rw[Õ,mul_add,pow_add,Â3];exact Î7 h2 ∅ ∅ (by have:=Æ4 (ü h1) h2;exact this)
theorem IsC.w(h:IsC c)(b:Prop)[Decidable b]:0<=(if b then c.1 else c.2 - c.1)/\(if b then c.1 else c.2 - c.1)<=1000:=by
 obtain⟨c1,c2,c3,c4,_⟩:=h;split <;> omega
theorem t31(ha:∀ c∈cs,IsC c)(h:n < cs.length):IsC (cf cs n):=ha _ (by rw[cf,Ó,Ñ h];exact À4 h)
theorem Z71(ha:∀ c∈cs,IsC c):∀ {j:Nat},j<=cs.length->0<=amt (cf cs) j lot/\amt (cf cs) j lot<=2 ^ (10 * j)
 |0,_=>by show(0:Int)<=1/\(1:Int)<=1;omega
 |j + 1,h=>by
  obtain⟨h1,h2⟩:=Z71 (lot:=lot) ha (j:=j) ∅
  obtain⟨w1,w2⟩:=(t31 ha (n:=j) ∅).w (j∈lot)
  rw[k00];refine⟨Ì4 h1 w1,?_⟩;rw[mul_add,pow_add];exact Î7 h2 ∅ w1 (by have:=Æ4 h1 h2;exact this)
theorem n11(n:Nat):∀ l:List Nat,memD (a60 n) (l.map a60)=decide (n∈l)
 |[]=>rfl
 |x::r=>by
  show((x:Int) == (n:Int) || memD (a60 n) (r.map a60))=_;rw[n11 n r,À0,Â9,beq_iff_eq,decide_eq_true_eq,decide_eq_true_eq,Á8];constructor
  ·rintro (h | h)
   ·exact .inl ∅
   ·exact .inr h
  ·rintro (h | h)
   ·exact .inl ∅
   ·exact .inr h
theorem Z90(l:List Nat):p42 (l.map a60)=true:=by
 have e:l.map a60=(l.map λ(n:Nat)=>(n:Int)).map D.int:=by rw[Ü];rfl
 obtain⟨h1,h2⟩:=R40 (l.map λ(n:Nat)=>(n:Int));unfold p42;rw[e,h1,h2];rfl
theorem g91{n:Nat}{l:List Nat}:r91 (a60 n) (l.map a60)=some (decide (n∈l)):=by
 unfold r91;rw[Z90,n11];rfl
theorem Z81{n:Nat}(h:n < cs.length):T90 (.tup (cs.map pr)) (.int n)=some (pr (cf cs n)):=by
 rw[cf,Ó,Ñ h];exact g31 (by rw[ã,Ñ h];rfl)
section
variable {m:Int}{ps cs:List (Int × Int)}{pl:List Nat}
theorem n21(g:c30 m ps)(hp:g90 m pl):G72 ps.length (b40 ps m.toNat pl):=λa b ha hb h=>by
 have hm:∀ p∈pl,p < m.toNat:=λp q=>by have:=hp.lt p q;omega
 rw[À0];exact⟨good_mono g.rng hm hb λn hn=>(h n).mp hn,good_mono g.rng hm ha λn hn=>(h n).mpr hn⟩
theorem S20(g:c30 m ps)(hp:g90 m pl):∀ a b:List Nat,(∀ n∈b,n < ps.length)->(∀ n∈a,n∈b)->b40 ps m.toNat pl a=true->b40 ps m.toNat pl b=true:=λ_ _ hb hab h=>good_mono g.rng (λp q=>by have:=hp.lt p q;omega) hb hab h
def D30(m:Int)(ps cs:List (Int × Int))(pl:List Nat):Int × Int:=u10 (i70 (a40 ps.length) λlot=>if b40 ps m.toNat pl lot then amt (cf cs) ps.length lot else 0) (c60 cs)
end
def frees(K:Nat)(held lack:List Nat):List Nat:=(Ø K).filter λn=>!(held.contains n || lack.contains n)
theorem s30:n∈frees K held lack↔n < K/\n ∉ held/\n ∉ lack:=by
 unfold frees;rw[Æ9,Ì6,á,Bool.or_eq_false_iff,Æ3,Æ3,decide_eq_false_iff_not,decide_eq_false_iff_not]
theorem T11:(frees K held lack).Nodup:=À6 _ Ô4
section
variable {g:List Nat->Bool}{c:Nat->Int × Int}
theorem I11:∀ (ns held:List Nat),(∀ n∈ns,IsC (c n))->0<=tot g c ns held/\tot g c ns held<=Z51 c ns
 |[],held,_=>by
  unfold tot;show _/\_<=1;split <;> decide
 |n::r,held,h=>by
  obtain⟨c1,c2,c3,c4,_⟩:=h n Ç;have hr:=λk hk=>h k (É _ hk);obtain⟨a0,a1⟩:=I11 r (n::held) hr;obtain⟨b0,b1⟩:=I11 r held hr;unfold tot;rw[H61];have p1:=Ì4 c3 a0;have p2:=Ì4 (show 0<=(c n).2 - (c n).1 by omega) b0
  have q1:=Á6 a1 c3;have q2:=Á6 b1 (show 0<=(c n).2 - (c n).1 by omega)
  refine⟨by omega,?_⟩
  have e:(c n).2 * Z51 c r=(c n).1 * Z51 c r + ((c n).2 - (c n).1) * Z51 c r:=by rw[← Int.add_mul];congr 1;omega
  omega
end
structure Fr(v:Int × Int)(t b:Int):Prop where
 t0:0<=v.1
 b0:0 < v.2
 one:gcd v.1 v.2=1
 eq:v.1 * b=v.2 * t
theorem Fr.bd(h:Fr v t b)(hb:0 < b)(ht:t<=b)(hn:b<=2 ^ n):Bd n v:=by
 refine⟨h.t0,?_,h.b0,?_⟩
 ·refine Int.le_of_mul_le_mul_right (a:=b) ?_ hb;rw[h.eq];exact Á6 ht (ü h.b0)
 ·exact Æ4 (le_of_dvd hb (H31 h.one ⟨t,h.eq⟩)) hn
theorem I21(h0:0 < b):(u10 t b).1 * b=(u10 t b).2 * t:=by
 obtain⟨e1,e2⟩:=g61 (t:=t) h0;generalize (u10 t b).1=x at *
 generalize (u10 t b).2=y at *
 generalize ((gcd t b:Nat):Int)=k at *
 rw[e1,e2]
 grind
def z20(k:Nat):List (List Nat):=(TS.sN k).map (TS.A40 k 0)
theorem z30(h:k<=8):a40 k=(Ø (2 ^ k)).map (TS.A40 k 0):=by
 have:∀ k,k < 9->a40 k=(Ø (2 ^ k)).map (TS.A40 k 0):=by decide +kernel
 exact this k ∅
theorem l10(h:k<=8):(z20 k).Perm (a40 k):=by
 have:∀ k,k < 9->(TS.sN k).isPerm (Ø (2 ^ k))=true:=by decide +kernel
 rw[z30 h];exact(List.isPerm_iff.mp (this k ∅)).map _
theorem E42(h:k<=8):(a40 k).map b50=i40 k:=by
 rw[z30 h];unfold i40;rw[Ü];rfl
theorem h01(h:k<=8):bfD .sorted [.lst ((a40 k).map b50)]=some (.fr ((z20 k).map b50)):=by
 have h1:∀ k,k < 9->i30 (i40 k)=false:=by decide +kernel
 have h2:∀ k,k < 9->((Ø 9).find? λj=>L50 (i40 k) (i40 j))=some k:=by decide +kernel
 rw[E42 h];show(if (i40 k).length < 64/\i30 (i40 k)=true then some (S.fr (D90 (i40 k))) else(P31 (i40 k)).map S.fr)=_;rw[if_neg (λq=>by rw[h1 k ∅] at q;cases q.2)]
 have e:P31 (i40 k)=some (z61 k):=by
  unfold P31 v82;rw[h1 k ∅,Å5,Ë4,if_neg Í]
  show(((Ø 9).find? λj=>L50 (i40 k) (i40 j)).map z61)=_;rw[h2 k ∅];rfl
 rw[e];show some (S.fr (z61 k))=some (S.fr ((z20 k).map b50));rw[z20,Ü];rfl
theorem T21{i:Nat}(hi:T[i]?=some (.code 1 3 t10))(k:Nat){m:Int}{ts:List D}(h8:ts.length<=8)(z:Z):a70 T (k + 3) i [.d (.tup [.int m,.tup ts])] z=some (.ok (.fr ((z20 ts.length).map b50)) z):=by
 refine W.ok (f40 (ps:=1) (ns:=3) (b:=t10) hi rfl (-0) ?_)
 refine(a00 (S10 (n:=ts.length) ∅) ?_ :)
 refine H90 (λxs ρ z1=>z1=z/\∃ (j r:Nat) (o2:Option S),j + r=ts.length/\xs=(Ã8 j r).map a60/\ρ=[some (.d (.tup [.int m,.tup ts])),some (.fr ((a40 j).map b50)),o2]) _ ⟨rfl,0,ts.length,none,Nat.zero_add _,rfl,rfl⟩ ?_ ?_
 ·rintro x r ρ z1 ⟨rfl,j,r',o2,hj,e,rfl⟩;cases r' with
  |zero=>cases e
  |succ r' =>
   rw[Ñ0] at e;cases e;have hp:=S00 (j:=j) ∅
   refine ip (by rw[Å,F10];simp only[most];omega) (I00 (T72 j) (λy hy=>?_) ?_)
   ·obtain⟨l,hl,rfl⟩:=Ë.mp hy;have:=m00 hl;refine(a00 (H91 (a:=l.map a60) (b:=[a60 j]) (by rw[Å];show _ + 1<=_;omega)) ?_ :)
    exact⟨rfl,rfl⟩
   ·rw[T01];refine(a00 (add_l (a:=(a40 j).map b50) (b:=((a40 j).map (·++[j])).map b50) (by rw[Å,Å,Å,F10];omega)) ?_ :)
    refine⟨rfl,j + 1,r',some (.d (a60 j)),by omega,rfl,?_⟩
    exact congrArg (λl=>[some (S.d (.tup [.int m,.tup ts])),some (.fr l),some (.d (a60 j))]) Â1.symm
 ·rintro ρ z1 ⟨rfl,j,r',o2,hj,e,rfl⟩;cases r' with
  |zero =>
   have hj:j=ts.length:=hj;subst hj;refine(a00 (h01 h8) ?_ :);exact sd rfl
  |succ r'=>rw[Ñ0] at e;cases e
theorem h31(k:Nat){m:Int}{ts:List D}(h8:ts.length<=8)(z:Z):a70 T (k + 3) M10 [.d (.tup [.int m,.tup ts])] z=some (.ok (.fr ((z20 ts.length).map b50)) z):=T21 rfl k h8 z
def l60:D->List Nat
 |.tup l=>l.map λx=>match x with | .int i=>i.toNat | _=>0
 |_=>[]
theorem e20(l:List Nat):l60 (b50 l)=l:=by
 show(l.map a60).map _=l;rw[Ü];exact Ô5 l
theorem m82(h:k<=8)(hl:lot∈z20 k):∀ n∈lot,n < k:=b60 ((l10 h).mem_iff.mp hl)
theorem S30(h:k<=8):(z20 k).length<=256:=by rw[(l10 h).length_eq,F10];exact S00 h
section
variable {m:Int}{ps cs:List (Int × Int)}{pl:List Nat}
abbrev e90(m:Int)(ps:List (Int × Int))(pl:List Nat):List (List Nat):=(z20 ps.length).filter (b40 ps m.toNat pl)
theorem m10(k:Nat)(g:c30 m ps)(hp:g90 m pl)(z:Z):a70 T (k + 9) k70 [.d (D10 m ps),.d (.tup (pl.map a60))] z=some (.ok (.fr ((e90 m ps pl).map b50)) z):=by
 have h8:=g.len;have h6:=hp.len g.m6;refine W.ok (f40 (ps:=2) (ns:=2) (b:=w10) rfl rfl (-0) (Wo (i60 k z g.web) (Wo (e40 (k + 2) (t:=.tup (ps.map pr)) z hp.pls (decide_eq_true (by rw[Å];omega))) (Wo (h31 (k + 5) (m:=m) (ts:=ps.map pr) (by rw[Å];exact h8) z) ?_))))
 rw[Å];refine ip (by rw[Å];exact h40 (Ù (S30 h8) (-0))) (l42 (λx=>b40 ps m.toNat pl (l60 x)) id (λx hx=>?_) ?_)
 ·obtain⟨l,hl,rfl⟩:=Ë.mp hx;refine Wo (b90 (k + 4) g hp (Row.t l) (m82 h8 hl) z) ⟨?_,rfl,λ_=>⟨rfl,rfl⟩⟩;rw[e20]
 ·refine sd ?_;rw[Ô5,Î8];have:(z20 ps.length).filter ((λx=>b40 ps m.toNat pl (l60 x)) ∘ b50)=e90 m ps pl:=É6 λl _=>by show b40 ps m.toNat pl (l60 (b50 l))=_;rw[e20]
  rw[this]
theorem t41(k:Nat)(hl:cs.length<=8)(ha:∀ c∈cs,IsC c)(lot:List Nat)(z:Z):a70 T (k + 3) Y60 [.d (.tup (cs.map pr)),.d (b50 lot)] z=some (.ok (.d (.int (amt (cf cs) cs.length lot))) z):=by
 refine W.ok (f40 (ps:=2) (ns:=6) (b:=I70) rfl rfl (-0) ?_)
 refine H90 (λxs ρ z1=>z1=z/\∃ (j:Nat) (o3 o4 o5:Option S),j<=cs.length/\xs=E00 ((cs.drop j).map pr) j/\ρ=[some (.d (.tup (cs.map pr))),some (.d (b50 lot)),some (.d (.int (amt (cf cs) j lot))),o3,o4,o5]) _ ⟨rfl,0,none,none,none,Æ6 _,rfl,(itE (by show(h20 _&&true)=true;rw[z00];rfl)).trans rfl⟩ ?_ ?_
 ·rintro x r ρ z1 ⟨rfl,j,o3,o4,o5,hj,e,rfl⟩;by_cases h:j < cs.length
  ·rw[É2 h] at e;cases e;have ec:cs[j]=cf cs j:=by rw[cf,Ó,Ñ h];rfl
   rw[ec];obtain⟨a1,a2⟩:=Z71 (lot:=lot) ha (j:=j) ∅
   refine(a00 (g91 (n:=j) (l:=lot)) ?_ :);have fin:∀ w:Int,0<=w->w<=1000->w=(if j∈lot then(cf cs j).1 else(cf cs j).2 - (cf cs j).1)->C00 .mul (.int (amt (cf cs) j lot)) (.int w)=some (.d (.int (amt (cf cs) (j + 1) lot))):=λw w0 w1 e=>by
    rw[g51 a1 (I90 (n:=10 * j) ∅ a2) w0 (y90 ∅),k00,e]
   obtain⟨w1,w2⟩:=(t31 ha h).w (j∈lot);refine ib (b:=decide (j∈lot)) (λhm=>?_) λhm=>?_
   ·rw[decide_eq_true_eq] at hm;rw[if_pos hm] at w1 w2;refine(a00 (fin _ w1 w2 (by rw[if_pos hm])) ?_ :)
    exact⟨rfl,j + 1,_,_,_,h,rfl,rfl⟩
   ·rw[decide_eq_false_iff_not] at hm;rw[if_neg hm] at w1 w2;refine(a00 (fin _ w1 w2 (by rw[if_neg hm])) ?_ :)
    exact⟨rfl,j + 1,_,_,_,h,rfl,rfl⟩
  ·rw[Ý8 ∅] at e;cases e
 ·rintro ρ z1 ⟨rfl,j,o3,o4,o5,hj,e,rfl⟩;by_cases h:j < cs.length
  ·rw[É2 h] at e;cases e
  ·have hj:j=cs.length:=by omega
   subst hj;exact sd rfl
theorem K70(k:Nat)(hl:cs.length<=8)(ha:∀ c∈cs,IsC c)(z:Z):a70 T (k + 3) y60 [.d (.tup (cs.map pr))] z=some (.ok (.d (.int (c60 cs))) z):=by
 obtain⟨b0,b1⟩:=B60 ha;refine W.ok (f40 (ps:=1) (ns:=3) (b:=p00) rfl rfl (-0) ?_)
 refine H90 (λxs ρ z2=>z2=z/\∃ (rest:List (Int × Int)) (b:Int) (o:Option S),xs=rest.map pr/\(∀ c∈rest,IsC c)/\0 < b/\b * c60 rest=c60 cs/\ρ=[some (.d (.tup (cs.map pr))),some (.d (.int b)),o]) _ ⟨rfl,cs,1,none,rfl,ha,by decide,Ï9 _,(itE (by show(h20 _&&true)=true;rw[z00];rfl)).trans rfl⟩ ?_ ?_
 ·rintro x r ρ z2 ⟨rfl,rest,b,o,e,hr,hb,ht,rfl⟩;cases rest with
  |nil=>cases e
  |cons c rest =>
   cases e;have hc':=hr c Ç;have hr':∀ c∈rest,IsC c:=λd hd=>hr d (É _ hd);have ht':b * (c.2 * c60 rest)=c60 cs:=ht;have p0:=(B60 hr').1;have hle:b<=c60 cs:=by
    rw[← ht'];have h1:0 < c.2 * c60 rest:=Ð2 (by have:=hc'.1;omega) p0
    have:b * 1<=b * (c.2 * c60 rest):=Á6 ∅ ∅
    omega
   refine(a00 (g51 (i:=b) (j:=c.2) ∅ (I90 (n:=10 * cs.length) ∅ (Æ4 hle b1)) (by have:=hc'.1;omega) (y90 (by have:=hc'.2.1;omega))) ?_ :)
   exact⟨rfl,rest,b * c.2,_,rfl,hr',Ð2 hb (by have:=hc'.1;omega),by rw[Ì5];exact ht',rfl⟩
 ·rintro ρ z2 ⟨rfl,rest,b,o,e,hr,hb,ht,rfl⟩;cases rest with
  |cons _ _=>cases e
  |nil =>
   have ht:b * 1=c60 cs:=ht;rw[mul_one] at ht;subst ht;exact sd rfl
theorem sum_ints(f:List Nat->Int):∀ ls:List (List Nat),s01 ((ls.map b50).map λx=>.int (f (l60 x)))=some (i70 ls f)
 |[]=>rfl
 |l::r=>by
  show(s01 ((r.map b50).map λx=>.int (f (l60 x)))).map (f (l60 (b50 l)) + ·)=_;rw[sum_ints f r,e20];rfl
theorem S40(k:Nat)(hl:cs.length<=8)(ha:∀ c∈cs,IsC c)(hls:ls.length<=256)(z:Z):a70 T (k + 5) r10 [.d (.tup (cs.map pr)),.d (.lst (ls.map b50))] z=some (.ok (.d (pr (u10 (i70 ls (amt (cf cs) cs.length)) (c60 cs)))) z):=by
 obtain⟨b0,b1⟩:=B60 ha;refine W.ok (f40 (ps:=2) (ns:=2) (b:=s10) rfl rfl (-0) ?_)
 refine ip (by rw[Å];exact h40 ∅) (I00 (λx=>.int (amt (cf cs) cs.length (l60 x))) (λx hx=>?_) ?_)
 ·obtain⟨l,_,rfl⟩:=Ë.mp hx;refine Wo (t41 (k + 1) hl ha l z) ⟨?_,rfl⟩;rw[e20]
 ·refine(a00 (o:=bfD .sum [.lst _]) (a:=.d (.int (i70 ls (amt (cf cs) cs.length)))) (by show(((d31 (.lst _)).bind s01).map _)=_;show(s01 _).map _=_;rw[sum_ints];rfl) ?_ :)
  exact Wo (K70 (k + 1) hl ha z) (Wo (I80 k _ _ z b0 (I90 (n:=10 * cs.length) ∅ b1)) (sd rfl))
theorem a01(h:a.Perm b):i70 a f=i70 b f:=by
 unfold i70;exact(h.map f).foldr_eq' (λx _ y _ z=>by omega) 0
theorem J10(g:List Nat->Bool)(f:List Nat->Int):∀ a:List (List Nat),i70 (a.filter g) f=i70 a λl=>if g l then f l else 0
 |[]=>rfl
 |x::r=>by
  have ih:=J10 g f r;show _=(if g x=true then f x else 0) + i70 r _;rw[List.filter_cons,← ih];cases g x with
  |true=>rfl|false=>show _=0 + _;rw[Int.zero_add];rfl
theorem S50(k:Nat)(g:c30 m ps)(hc:cs.length=ps.length)(ha:∀ c∈cs,IsC c)(z:Z):a70 T (k + 5) r10 [.d (.tup (cs.map pr)),.d (.lst ((e90 m ps pl).map b50))] z=some (.ok (.d (pr (D30 m ps cs pl))) z):=by
 have h8:=g.len;rw[S40 k ∅ ha (Ù (Ç2 _ _) (S30 h8)) z,J10,a01 (l10 h8),hc]
 rfl
theorem n31(k:Nat)(g:c30 m ps)(hp:g90 m pl)(hc:cs.length=ps.length)(ha:∀ c∈cs,IsC c)(z:Z):a70 T (k + 11) f51 [.d (D10 m ps),.d (.tup (cs.map pr)),.d (.tup (pl.map a60))] z=some (.ok (.d (pr (D30 m ps cs pl))) z):=by
 have h6:=hp.len g.m6;exact W.ok (f40 (ps:=3) (ns:=3) (b:=f71) rfl rfl (-0) (Wo (p90 k (m:=m) (ts:=ps.map pr) g.web z (Z41 (by rw[Å];exact hc) ha)) (Wo (e40 (k + 4) (t:=.tup (ps.map pr)) z hp.pls (decide_eq_true (by rw[Å];omega))) (Wo (m10 (k + 1) g hp z) (Wo (S50 (k + 5) g hc ha z) (sd rfl))))))
end
theorem t30{f g:List Nat->Int}:∀ {a:List (List Nat)},(∀ x∈a,f x=g x)->i70 a f=i70 a g
 |[],_=>rfl
 |x::r,h=>by
  show f x + i70 r f=g x + i70 r g;rw[h x Ç,t30 λy hy=>h y (É _ hy)]
def t51(j:Nat)(lot:List Nat):List Nat:=(Ø j).filter λn=>!lot.contains n
def tl:Sm->Sm
 |.seq _ r=>r|s=>s
theorem I31{n K:Nat}(h:n < K):d40 (.int n) K=true:=by
 show(decide (0<=(n:Int))&&decide ((n:Int) < (K:Int)))=true;rw[decide_eq_true ∅,decide_eq_true ∅];rfl
structure Rt(v:Int × Int)(t b:Int):Prop where
 b0:0 < v.2
 one:gcd v.1 v.2=1
 eq:v.1 * b=t * v.2
theorem Rt.low{t b:Int}(hb:0 < b):Rt (u10 t b) t b:=⟨g71 hb,H21 hb,by rw[I21 hb,Â3]⟩
theorem Rt.conv{v:Int × Int}{t b t' b':Int}(h:Rt v t b)(hb:0 < b)(e:t * b'=t' * b):Rt v t' b':=by
 refine⟨h.b0,h.one,Î5 (a:=b) ∅ ?_⟩
 have:=h.eq
 calc v.1 * b' * b=(v.1 * b) * b':=by grind
  _=(t * b') * v.2:=by rw[this];grind
  _=t' * v.2 * b:=by rw[e];grind
theorem Rt.eqv{v w:Int × Int}{t b:Int}(hv:Rt v t b)(hw:Rt w t b)(hb:0 < b):v=w:=by
 have e:v.1 * w.2=w.1 * v.2:=by
  have h1:=hv.eq;have h2:=hw.eq;refine Î5 (a:=b) ∅ ?_
  calc v.1 * w.2 * b=(v.1 * b) * w.2:=by grind
   _=(t * w.2) * v.2:=by rw[h1];grind
   _=w.1 * v.2 * b:=by rw[← h2];grind
 obtain⟨a,b'⟩:=t11 hv.b0 hw.b0 hv.one hw.one e;exact Prod.ext a b'
theorem Rt.add{v w:Int × Int}{t b t' b':Int}(hv:Rt v t b)(hw:Rt w t' b'):Rt (u10 (v.1 * w.2 + w.1 * v.2) (v.2 * w.2)) (t * b' + t' * b) (b * b'):=by
 have y:=Ð2 hv.b0 hw.b0;refine(Rt.low y).conv y ?_;have h1:=hv.eq;have h2:=hw.eq
 calc (v.1 * w.2 + w.1 * v.2) * (b * b')=(v.1 * b) * (w.2 * b') + (w.1 * b') * (v.2 * b):=by grind
  _=(t * b' + t' * b) * (v.2 * w.2):=by rw[h1,h2];grind
theorem Rt.mul{v w:Int × Int}{t b t' b':Int}(hv:Rt v t b)(hw:Rt w t' b'):Rt (u10 (v.1 * w.1) (v.2 * w.2)) (t * t') (b * b'):=by
 have y:=Ð2 hv.b0 hw.b0;refine(Rt.low y).conv y ?_;have h1:=hv.eq;have h2:=hw.eq
 calc v.1 * w.1 * (b * b')=(v.1 * b) * (w.1 * b'):=by grind
  _=t * t' * (v.2 * w.2):=by rw[h1,h2];grind
theorem Rt.pos{v:Int × Int}{t b:Int}(h:Rt v t b)(hb:0 < b)(ht:0<=t):0<=v.1:=by
 have:=Ì4 ht (ü h.b0);rw[← h.eq] at this;exact Int.nonneg_of_mul_nonneg_left this hb
theorem T82(a:Int × Int):(!((a.1 == a.1)&&((a.2 == a.2)&&true)))=false:=by rw[beq_self_eq_true,beq_self_eq_true];rfl
section
variable {m:Int}{ps cs:List (Int × Int)}{pl:List Nat}
theorem m92{j n:Nat}{lot:List Nat}(h:n∈t51 j lot):n < j:=é.mp (Æ1.mp h).1
theorem S60(k:Nat)(h8:ps.length<=8)(lot:List Nat)(z:Z):a70 T (k + 3) C40 [.d (D10 m ps),.d (b50 lot)] z=some (.ok (.d (b50 (t51 ps.length lot))) z):=by
 refine W.ok (f40 (ps:=2) (ns:=2) (b:=r50) rfl rfl (-0) ?_)
 refine(a00 (o:=itD .rng1 [.int ((ps.map pr).length:Nat)]) (S10 (n:=(ps.map pr).length) (by rw[Å];omega)) ?_ :)
 rw[Å];refine ip (by rw[Å,List.length_range'];exact h40 ∅) (l42 (λx=>match x with | .int i=>!lot.contains i.toNat | _=>false) id (λx hx=>?_) ?_)
 ·obtain⟨n,hn,rfl⟩:=Ë.mp hx;refine(a00 (o:=(r91 (a60 n) (lot.map a60)).map (!·)) (a:=!lot.contains n) (by rw[g91,Æ3];rfl) ?_ :)
  exact⟨rfl,rfl,λ_=>⟨rfl,rfl⟩⟩
 ·rw[Ô5,Î8];refine sd ?_;rw[Å,← È0];rfl
end
theorem e50:∀ {j:Nat}{lot:List Nat},lot∈a40 j->lot.Pairwise (· < ·)
 |0,lot,h=>by
  have:lot=[]:=by simpa [a40] using h
  subst this;exact .nil
 |j + 1,lot,h=>by
  rcases ó.mp (show lot∈a40 j++(a40 j).map (·++[j]) from h) with h | h
  ·exact e50 h
  ·obtain⟨x,hx,rfl⟩:=Ë.mp h;rw[Ê4];refine⟨e50 hx,Å7 _ _,λa ha b hb=>?_⟩;rw[ð] at hb;subst hb;exact b60 hx a ha
theorem z40:∀ {K:Nat}{lot:List Nat},lot.Pairwise (· < ·)->(∀ n∈lot,n < K)->lot.length<=K:=λ{K lot} h1 h2=>by
 have:=(List.Nodup.length_le_of_subset (h1.imp λh=>ß h) (λn hn=>é.mpr (h2 n hn):lot ⊆ Ø K))
 rwa [ê] at this
theorem n41:∀ ns:List Int,A50 (ns.map D.int)=some ns
 |[]=>rfl
 |n::r=>by
  show(A50 (r.map D.int)).map (n::·)=_;rw[n41 r];rfl
def M70(ks:List Int)(m:Int):List Int:=if m∈ks then ks else ks++[m]
theorem T31(ks:List Int)(m:Int):ks.length<=(M70 ks m).length/\(M70 ks m).length<=ks.length + 1:=by
 unfold M70;split
 ·exact⟨Ê _,le_succ _⟩
 ·rw[ö];exact⟨le_succ _,Ê _⟩
theorem n51:∀ (ns ks:List Int),ks.length<=(ns.foldl M70 ks).length/\(ns.foldl M70 ks).length<=ks.length + ns.length
 |[],ks=>⟨Ê _,Ê _⟩
 |m::r,ks=>by
  have h:=n51 r (M70 ks m);have k:=T31 ks m;rw[Ê6,Õ];omega
theorem n61{a:Int}:∀ ns:List Int,(ns.foldl M70 [a]).length=1↔∀ x∈ns,x=a
 |[]=>⟨λ_ _ h=>(nomatch h),λ_=>rfl⟩
 |m::r=>by
  rw[Ê6];by_cases h:m=a
  ·have e:M70 [a] m=[a]:=by unfold M70;rw[if_pos (by rw[h];exact Ç)]
   rw[e,n61 r];exact⟨λk x hx=>(à.mp hx).elim (λz=>z.trans h) (k x),λk x hx=>k x (É _ hx)⟩
  ·have e:M70 [a] m=[a,m]:=by unfold M70;rw[if_neg (λq=>h (ù.mp q))];rfl
   rw[e];have:=(n51 r [a,m]).1;exact⟨λq=>by rw[Õ,Ò4] at this;omega,λq=>absurd (q m Ç) h⟩
def U10(ns:List Int):Nat:=(ns.foldl M70 []).length
theorem n71(ns:List Int):U10 ns=(ns.foldl M70 []).length:=rfl
theorem T41{a:Int}{r:List Int}:U10 (a::r)=1↔∀ x∈r,x=a:=by
 rw[n71];exact n61 r
theorem E52{mk:List Int}{a:Int}:(∀ x∈mk,x=a)↔∀ p < mk.length,mk.getD p 0=a:=by
 constructor
 ·intro h p hp;rw[Ó,Ñ hp];exact h _ (À4 hp)
 ·intro h x hx;obtain⟨p,hp,rfl⟩:=È9.mp hx;have:=h p hp;rw[Ó,Ñ hp] at this;exact this
theorem I41{mk:List Int}(h:0 < mk.length):U10 mk=1↔H51 mk (Ø mk.length)=true:=by
 cases mk with
 |nil=>cases h
 |cons a r =>
  rw[T41];unfold H51;rw[Á1];have e0:(Ø (a::r).length).getD 0 0=0:=by rw[Õ,List.range_succ_eq_map];rfl
  rw[e0];have k:=E52 (mk:=a::r) (a:=a);constructor
  ·intro q p hp;rw[beq_iff_eq];exact k.mp (λx hx=>(à.mp hx).elim id (q x)) p (é.mp hp)
  ·intro q x hx;exact k.mpr (λp hp=>eq_of_beq (q p (é.mpr hp))) x (É _ hx)
section
variable {m:Int}{ps cs:List (Int × Int)}
theorem T51{a:List (List Nat)}{f g:List Nat->Int}:i70 a (λx=>f x + g x)=i70 a f + i70 a g:=by
 induction a with
 |nil=>rfl
 |cons x r ih =>
  show f x + g x + i70 r (λx=>f x + g x)=f x + i70 r f + (g x + i70 r g);rw[ih];omega
end
section
variable {m:Int}{ps cs:List (Int × Int)}{pl:List Nat}
theorem S70(g:c30 m ps)(l:List Nat):U10 (f90 ps m.toNat l)=0 + 1↔b40 ps m.toNat (Ø m.toNat) l=true:=by
 have h:=I41 (mk:=f90 ps m.toNat l) (by rw[J00];have:=g.m1;omega)
 rw[J00] at h;exact h
end
theorem m20:∀ {K:Nat}{l:List Nat},l.Pairwise (· < ·)->(∀ n∈l,n < K)->l∈a40 K
 |0,l,_,h=>by
  cases l with
  |nil=>exact ù.mpr rfl|cons a r=>exact absurd (h a Ç) (Ð0 _)
 |K + 1,l,hp,h=>by
  show l∈a40 K++(a40 K).map (·++[K]);by_cases hk:K∈l
  ·obtain⟨s,t,rfl⟩:=List.append_of_mem hk;rw[Ê4] at hp;obtain⟨p1,p2,p3⟩:=hp;have ht:t=[]:=by
    cases t with
    |nil=>rfl
    |cons b r =>
     have h1:=Î9 p2 Ç;have h2:=h b (Ú _ (É _ Ç));omega
   subst ht;refine Ú _ (Ë.mpr ⟨s,m20 p1 λn hn=>p3 n hn K Ç,rfl⟩)
  ·refine Á4 _ (m20 hp λn hn=>?_);have:=h n hn;have:n≠K:=λe=>hk (e ▸ hn);omega
theorem n81{K:Nat}{l:List Nat}(h:l∈a40 K)(i:Nat):l.eraseIdx i∈a40 K :=
 m20 ((e50 h).sublist (Þ3 ..)) λn hn=>b60 h n ((Þ3 ..).mem hn)
def n22(l:List Nat):List (List Nat):=(Ø l.length).map l.eraseIdx
def h60(ls:List (List Nat)):List (List Nat):=ls.filter λl=>!(n22 l).any λx=>ls.contains x
theorem i80{ls:List (List Nat)}{x:List Nat}(h:x∈h60 ls):x∈ls:=(Æ1.mp h).1
theorem n91{ls:List (List Nat)}{x:List Nat}(h:x∈h60 ls){i:Nat}(hi:i < x.length):x.eraseIdx i ∉ ls:=λq=>by
 have h2:=(Æ1.mp h).2;rw[á,List.any_eq_false] at h2;exact h2 (x.eraseIdx i) (Ë.mpr ⟨i,é.mpr hi,rfl⟩) (Þ4.mpr q)
section
variable {m:Int}{ps cs:List (Int × Int)}{pl:List Nat}
theorem e30(g:c30 m ps){l:List Nat}:l∈e90 m ps pl↔l∈a40 ps.length/\b40 ps m.toNat pl l=true:=by
 rw[Æ9,(l10 g.len).mem_iff]
theorem n32{K n:Nat}{l:List Nat}:n∈t51 K l↔n < K/\n ∉ l:=by
 unfold t51;rw[Æ9,Ì6,á,Æ3,decide_eq_false_iff_not]
theorem len_one:∀ a:List (List Nat),(a.length:Int)=i70 a λ_=>1
 |[]=>rfl
 |x::r=>by
  show((r.length + 1:Nat):Int)=1 + i70 r λ_=>1;rw[← len_one r];omega
end
theorem T61{ks:List Int}{m x:Int}:x∈M70 ks m↔x∈ks∨x=m:=by
 unfold M70;split
 ·rename_i h;exact⟨.inl,λq=>q.elim id λe=>e ▸ h⟩
 ·rw[Ç7,ð]
theorem n42{ks:List Int}{m:Int}(h:ks.Nodup):(M70 ks m).Nodup:=by
 unfold M70;split
 ·exact h
 ·rename_i q;rw[Ø6];exact⟨h,by simp,λa ha b hb e=>by rw[ð] at hb;subst hb;subst e;exact q ha⟩
theorem o00{x:Int}:∀ (ns ks:List Int),x∈ns.foldl M70 ks↔x∈ks∨x∈ns
 |[],ks=>by simp
 |m::r,ks=>by
  rw[Ê6,o00 r,T61,Á8,or_assoc]
theorem F20:∀ (ns:List Int) {ks:List Int},ks.Nodup->(ns.foldl M70 ks).Nodup
 |[],_,h=>h|_::r,_,h=>F20 r (n42 h)
theorem J20(m:Nat):U10 ((Ø m).map λ(i:Nat)=>(i:Int))=m:=by
 rw[n71];have h1:=F20 ((Ø m).map λ(i:Nat)=>(i:Int)) (ks:=[]) nodup_nil;have h2:((Ø m).map λ(i:Nat)=>(i:Int)).Nodup:=Õ7.map _ (λa b h e=>h ∅) Ô4
 have p:=(Å8 h1 h2).mpr λx=>by rw[o00];simp
 rw[p.length_eq,Å,ê]
section
variable {ps:List (Int × Int)}
theorem getD_in{mk:List Int}{i:Nat}(h:i < mk.length):mk.getD i 0∈mk:=by
 rw[Ó,Ñ h];exact À4 h
theorem step_same{mk:List Int}{n:Nat}(h:mk.getD (tA ps n) 0=mk.getD (tB ps n) 0):j40 ps mk n=mk:=by
 unfold j40;rw[h]
 conv=>rhs;rw[← Ô5 mk]
 refine Á9 λx _=>?_;show(if x=_ then _ else x)=x;split
 ·rename_i e;exact e.symm
 ·rfl
theorem o01{mk:List Int}{n:Nat}(ha:tA ps n < mk.length)(hb:tB ps n < mk.length)(h:mk.getD (tA ps n) 0≠mk.getD (tB ps n) 0):U10 (j40 ps mk n) + 1=U10 mk:=by
 have ia:=getD_in ha;have ib:=getD_in hb;rw[n71,n71];unfold j40;generalize mk.getD (tA ps n) 0=a at *
 generalize mk.getD (tB ps n) 0=b at *
 have d1:=F20 mk (ks:=[]) nodup_nil;have d2:=F20 (mk.map λx=>if x=b then a else x) (ks:=[]) nodup_nil;have p:=(Å8 d2 (List.Nodup.erase b d1)).mpr λx=>by
  rw[o00,d1.mem_erase_iff,o00,Ë];constructor
  ·rintro (q | ⟨y,hy,e⟩)
   ·cases q
   ·split at e
    ·subst e;exact⟨h,.inr ia⟩
    ·rename_i hyb;subst e;exact⟨hyb,.inr hy⟩
  ·rintro ⟨q,q2 | q2⟩
   ·cases q2
   ·exact .inr ⟨x,q2,by rw[if_neg q]⟩
 rw[p.length_eq,List.length_erase_of_mem ((o00 _ _).mpr (.inr ib))];have:0 < (mk.foldl M70 []).length:=List.length_pos_of_mem ((o00 _ _).mpr (.inr ib));omega
theorem S80{m:Nat}(hr:∀ n < ps.length,tA ps n < m/\tB ps n < m):∀ (l:List Nat) (mk:List Int),mk.length=m->(∀ n∈l,n < ps.length)->(∀ p n q,l=p++n::q->(p.foldl (j40 ps) mk).getD (tA ps n) 0≠(p.foldl (j40 ps) mk).getD (tB ps n) 0)->U10 (l.foldl (j40 ps) mk) + l.length=U10 mk
 |[],_,_,_,_=>rfl
 |n::r,mk,hm,hl,h=>by
  have hn:=hr n (hl n Ç);have s:=o01 (ps:=ps) (mk:=mk) (n:=n) ∅ ∅ (h [] n r rfl)
  have ih:=S80 hr r (j40 ps mk n) (by rw[z10];exact hm) (λk hk=>hl k (É _ hk)) λp k q e=>h (n::p) k q (by rw[e];rfl)
  rw[Ê6,Õ];omega
end
section
variable {m:Int}{ps:List (Int × Int)}
theorem S90(g:c30 m ps){l:List Nat}(h:l∈h60 (e90 m ps (Ø m.toNat))):(l.length:Int)=m - 1/\U10 (f90 ps m.toNat l)=1:=by
 have m1:=g.m1;obtain⟨l1,l2⟩:=(e30 g).mp (i80 h);have n1:U10 (f90 ps m.toNat l)=1:=(S70 g l).mpr l2;have f:=S80 (ps:=ps) g.rng l ((Ø m.toNat).map λ(i:Nat)=>(i:Int)) (by rw[Å,ê]) (b60 l1) λp n q e same=>by
  have hi:p.length < l.length:=by rw[e,ö,Õ];omega
  refine n91 h hi ((e30 g).mpr ⟨n81 l1 _,?_⟩);have er:l.eraseIdx p.length=p++q:=by rw[e,List.eraseIdx_append_of_length_le (Ê _),Nat.sub_self];rfl
  rw[er];unfold b40 at l2 ⊢;have em:f90 ps m.toNat (p++q)=f90 ps m.toNat l:=by
   unfold f90;rw[e,Ø7,Ø7,Ê6,step_same same]
  rw[em];exact l2
 rw[J20] at f;have:U10 (f90 ps m.toNat l) + l.length=m.toNat:=f;exact⟨by omega,n1⟩
end
abbrev pf(ps:List (Int × Int))(i:Nat):Int × Int:=ps.getD i (0,0)
section
variable {m:Int}{ps cs:List (Int × Int)}{pl:List Nat}
theorem E62{i:Nat}(h:i < ps.length):pf ps i∈ps:=by
 rw[pf,Ó,Ñ h];exact À4 h
theorem c30.ab(g:c30 m ps){n:Nat}(hn:n < ps.length):tA ps n < tB ps n/\tB ps n < m.toNat/\pf ps n=((tA ps n:Int),(tB ps n:Int)):=by
 have:=g.tie _ (E62 hn);refine⟨by show(pf ps n).1.toNat < (pf ps n).2.toNat;omega,by show(pf ps n).2.toNat < _;omega,Prod.ext ?_ ?_⟩
 ·show(pf ps n).1=((pf ps n).1.toNat:Int);omega
 ·show(pf ps n).2=((pf ps n).2.toNat:Int);omega
theorem I51(g:c30 m ps)(hp:g90 m pl){lot:List Nat}(hl:∀ n∈lot,n < ps.length):b40 ps m.toNat pl lot=true↔∀ f:Nat->Int,(∀ n∈lot,f (tA ps n)=f (tB ps n))->∀ p∈pl,∀ q∈pl,f p=f q:=by
 rw[p40 g.rng (λp q=>by have:=hp.lt p q;omega) hl]
 refine⟨λh f hf p h1 q h2=>(h f hf p h1).trans (h f hf q h2).symm,λh f hf p h1=>h f hf p h1 _ ?_⟩;cases pl with
 |nil=>cases h1
 |cons a r=>exact Ç
end
section
variable {m:Int}{ps:List (Int × Int)}{tree w:List Nat}{L n:Nat}
theorem c30.two(g:c30 m ps)(hn:n < ps.length):g90 m [tA ps n,tB ps n]:=by
 obtain⟨h1,h2,_⟩:=g.ab hn;refine⟨(by simp),À9.mpr ⟨λx hx=>by rw[ð] at hx;rw[hx];exact h1,Å7 _ _⟩,λp hp=>?_⟩
 rcases à.mp hp with rfl | hp
 ·omega
 ·rw[ð] at hp;rw[hp];omega
theorem n52(g:c30 m ps)(ht:tree∈h60 (e90 m ps (Ø m.toNat))){x:Nat}(hxt:x∈tree):∃ f:Nat->Int,(∀ k∈tree,k≠x->f (tA ps k)=f (tB ps k))/\f (tA ps x)≠f (tB ps x):=by
 obtain⟨t1,t2⟩:=(e30 g).mp (i80 ht);have tl:=b60 t1;obtain⟨i,hi,ei⟩:=È9.mp hxt;have no:=n91 ht hi;have sub:∀ k,k∈tree.eraseIdx i↔k∈tree/\k≠x:=λk=>by
  have nd:tree.Nodup:=(e50 t1).imp λh=>ß h;rw[List.mem_eraseIdx_iff_getElem?,← ei];constructor
  ·rintro ⟨j,hj,e⟩;obtain⟨hj2,rfl⟩:=Þ.mp e;exact⟨À4 _,λq=>hj ((getElem_inj nd).mp q)⟩
  ·rintro ⟨q1,q2⟩;obtain⟨j,hj,rfl⟩:=È9.mp q1;exact⟨j,λq=>q2 (by subst q;rfl),Ñ hj⟩
 have hr:∀ p∈Ø m.toNat,p < m.toNat:=λp hp=>é.mp hp;have e0:¬ b40 ps m.toNat (Ø m.toNat) (tree.eraseIdx i)=true:=λq=>no ((e30 g).mpr ⟨n81 t1 i,q⟩);rw[p40 g.rng hr (λk hk=>tl k ((sub k).mp hk).1)] at e0;obtain⟨f,e0⟩:=Classical.not_forall.mp e0;obtain⟨f1,e0⟩:=Classical.not_imp.mp e0;have f2:∀ k∈tree,k≠x->f (tA ps k)=f (tB ps k):=λk hk hne=>f1 k ((sub k).mpr ⟨hk,hne⟩);have f3:f (tA ps x)≠f (tB ps x):=λq=>e0 ((p40 g.rng hr tl).mp t2 f λk hk=>by
  by_cases e:k=x
  ·subst e;exact q
  ·exact f2 k hk e)
 exact⟨f,f2,f3⟩
end
theorem E72:∀ m < 256,TS.A40 8 0 m=(Ø 8).filter λn=>m.testBit n:=by decide +kernel
section
variable {m:Int}{ps:List (Int × Int)}
def n62(m:Int)(ps:List (Int × Int))(l:List Nat):Bool:=decide ((l.length:Int)=m - 1)&&b40 ps m.toNat (Ø m.toNat) l
end
def n72:D->Nat
 |.int i=>i.toNat|_=>0
theorem Z91(l:List D)(p:D->Bool):bfD .any [.lst (l.map λx=>D.bl (p x))]=some (.d (.bl (l.any p))):=by
 have:∀ l:List D,(l.map λx=>D.bl (p x)).mapM asB=some (l.map p):=λl=>by
  induction l with
  |nil=>rfl
  |cons x r ih =>
   rw[È1,Õ2,ih];rfl
 show((l.map λx=>D.bl (p x)).mapM asB).map _=_;rw[this];show some (S.d (.bl ((l.map p).any id)))=_;rw[List.any_map];rfl
theorem n82{l:List Nat}{i:Nat}(h:i < l.length):cutD (l.map a60) none (some (i:Int))++cutD (l.map a60) (some ((i:Int) + 1)) none=(l.eraseIdx i).map a60:=by
 rw[m51 _ ∅,Á3,show((i:Int) + 1)=((i + 1:Nat):Int) by omega,t20,List.eraseIdx_eq_take_drop_succ,Â1,List.map_take,List.map_drop]
theorem n92{l:List Nat}{i:Nat}(hl:l.length<=8)(h:i < l.length):C00 .add (.tup (cutD (l.map a60) none (some (i:Int)))) (.tup (cutD (l.map a60) (some ((i:Int) + 1)) none))=some (.d (b50 (l.eraseIdx i))):=by
 have e1:(cutD (l.map a60) none (some (i:Int))).length<=8:=by rw[m51 _ ∅,Å3,Å];omega
 have e2:(cutD (l.map a60) (some ((i:Int) + 1)) none).length<=8:=by rw[show((i:Int) + 1)=((i + 1:Nat):Int) by omega,t20,Ë0,Å];omega
 rw[H91 ∅,n82 h];rfl
theorem J30(k:Nat){l:List Nat}(hl:l.length<=8)(z:Z):a70 T (k + 3) u30 [.d (b50 l)] z=some (.ok (.fr ((n22 l).map b50)) z):=by
 refine W.ok (f40 (ps:=1) (ns:=1) (b:=m50) rfl rfl (-0) ?_)
 refine(a00 (o:=itD .rng1 [.int ((l.map a60).length:Nat)]) (S10 (n:=(l.map a60).length) (by rw[Å];omega)) ?_ :)
 rw[show(l.map a60).length=l.length from Å _];refine ip (by rw[Å,List.length_range'];exact h40 ∅) (I00 (λx=>b50 (l.eraseIdx (n72 x))) (λx hx=>?_) ?_)
 ·obtain⟨i,hi,rfl⟩:=Ë.mp hx;have hi:i < l.length:=by rw[← È0] at hi;exact é.mp hi
  refine(a00 (n92 hl hi) ?_ :);exact⟨rfl,rfl⟩
 ·refine sd ?_;rw[Ü,← È0];unfold n22;rw[Ü];rfl
def j50(l:List Nat):List Int:=l.map λ(n:Nat)=>(n:Int)
theorem o11(l:List Nat):p52 (b50 l)=some (j50 l):=by
 show A50 (l.map a60)=_;have e:l.map a60=(j50 l).map D.int:=by unfold j50;rw[Ü];rfl
 rw[e,n41]
theorem a11:∀ ls:List (List Nat),z91 (ls.map b50)=some (ls.map j50)
 |[]=>rfl
 |l::r=>by
  show(p52 (b50 l)).bind (λk=>(z91 (r.map b50)).map (k::·))=_;rw[o11,a11 r];rfl
theorem o21{a b:List Nat}(h:j50 a=j50 b):a=b:=by
 have:∀ l:List Nat,(j50 l).map Int.toNat=l:=λl=>by
  unfold j50;rw[Ü];exact Ô5 l
 rw[← this a,h,this b]
theorem T71(ls:List (List Nat))(l:List Nat):(ls.map j50).contains (j50 l)=ls.contains l:=by
 rw[À0,Ì8,Ì8,Ë];exact⟨λ⟨x,hx,e⟩=>o21 e ▸ hx,λh=>⟨l,h,rfl⟩⟩
theorem h41(k:Nat){ls:List (List Nat)}(hn:ls.length<=256)(h8:∀ l∈ls,l.length<=8)(z:Z):a70 T (k + 4) M20 [.d (.lst (ls.map b50))] z=some (.ok (.fr ((h60 ls).map b50)) z):=by
 refine W.ok (f40 (ps:=1) (ns:=2) (b:=B10) rfl rfl (-0) ?_)
 refine(a00 (o:=f52 (.lst (ls.map b50))) (a:=ls.map j50) (a11 ls) ?_ :);refine ip (by rw[Å];exact h40 ∅) (l42 (λx=>!(n22 (l60 x)).any λy=>ls.contains y) id (λx hx=>?_) ?_)
 ·obtain⟨l,hl,rfl⟩:=Ë.mp hx;have hl8:=h8 l hl;refine Wo (J30 k hl8 z) ?_;refine ip (by rw[Å];unfold n22;rw[Å,ê];exact h40 ∅) (I00 (λy=>.bl (ls.contains (l60 y))) (λy hy=>?_) ?_)
  ·obtain⟨x,_,rfl⟩:=Ë.mp hy;refine(a00 (o11 x) ?_ :);refine⟨?_,rfl⟩;rw[T71,e20];cases ls.contains x <;> rfl
  ·refine(a00 (Z91 _ λy=>ls.contains (l60 y)) ?_ :);refine⟨?_,rfl,λ_=>⟨rfl,rfl⟩⟩;rw[List.any_map,e20]
   congr 4
   funext y
   show ls.contains (l60 (b50 y))=_;rw[e20]
 ·refine sd ?_;rw[Ô5,Î8];have:ls.filter ((λx=>!(n22 (l60 x)).any λy=>ls.contains y) ∘ b50)=h60 ls:=É6 λl _=>by show(!(n22 (l60 (b50 l))).any λy=>ls.contains y)=_;rw[e20]
  rw[this]
section
variable {m:Int}{ps:List (Int × Int)}{pl lot:List Nat}
theorem o31(g:c30 m ps):(e90 m ps pl).length<=256:=Ù (Ç2 _ _) (S30 g.len)
theorem a02(g:c30 m ps){l:List Nat}(h:l∈a40 ps.length):l.length<=8:=Ù (m00 h) g.len
theorem z50(k:Nat)(g:c30 m ps)(hp:g90 m pl)(z:Z):a70 T (k + 10) q90 [.d (D10 m ps),.d (.tup (pl.map a60))] z=some (.ok (.fr ((h60 (e90 m ps pl)).map b50)) z) :=
 W.ok (f40 (ps:=2) (ns:=2) (b:=r60) rfl rfl (-0) (Wo (m10 k g hp z) (Wo (h41 (k + 5) (o31 g) (λl hl=>a02 g ((e30 g).mp hl).1) z) (sd rfl))))
end
theorem h51:∀ ls:List (List Nat),g00 (ls.map b50)=true/\h70 (ls.map b50)<=1
 |[]=>⟨rfl,by decide⟩
 |l::r=>by
  obtain⟨h1,h2⟩:=h51 r;have e:l.map a60=(l.map λ(n:Nat)=>(n:Int)).map D.int:=by rw[Ü];rfl
  obtain⟨g1,g2⟩:=R40 (l.map λ(n:Nat)=>(n:Int));rw[← e] at g1 g2;refine⟨?_,?_⟩
  ·show(g00 (l.map a60)&&g00 (r.map b50))=true;rw[h1,g1];rfl
  ·show Nat.max (h70 (l.map a60) + 1) (h70 (r.map b50))<=1;rw[g2];exact Nat.max_le.mpr ⟨Ê _,h2⟩
theorem T81(ls:List (List Nat)):okD (.lst (ls.map b50))=true:=by
 obtain⟨h1,h2⟩:=h51 ls;unfold okD;rw[À,decide_eq_true_eq];refine⟨h1,?_⟩;show h70 (ls.map b50) + 1<=40;omega
section
variable {m:Int}{ps:List (Int × Int)}{pl:List Nat}
theorem I61{ls:List (List Nat)}:(h60 ls).length<=ls.length:=Ç2 _ _
theorem b93(g:c30 m ps){l:List Nat}(h:l∈h60 (e90 m ps pl)):l.length<=8:=a02 g ((e30 g).mp (i80 h)).1
end
section
variable {m:Int}{ps:List (Int × Int)}
theorem a12{m:Nat}(hr:∀ n < ps.length,tA ps n < m/\tB ps n < m):∀ (l:List Nat) (mk:List Int),mk.length=m->(∀ n∈l,n < ps.length)->U10 mk<=U10 (l.foldl (j40 ps) mk) + l.length
 |[],_,_,_=>Ê _
 |n::r,mk,hm,hl=>by
  have hn:=hr n (hl n Ç);have ih:=a12 hr r (j40 ps mk n) (by rw[z10];exact hm) λk hk=>hl k (É _ hk)
  rw[Ê6,Õ];by_cases h:mk.getD (tA ps n) 0=mk.getD (tB ps n) 0
  ·rw[step_same h] at ih ⊢;omega
  ·have:=o01 (ps:=ps) (mk:=mk) (n:=n) ∅ ∅ h
   omega
theorem o02(g:c30 m ps){l:List Nat}(hl:∀ n∈l,n < ps.length)(h:b40 ps m.toNat (Ø m.toNat) l=true):m<=l.length + 1:=by
 have n1:U10 (f90 ps m.toNat l)=1:=(S70 g l).mpr h;have f:=a12 (ps:=ps) g.rng l ((Ø m.toNat).map λ(i:Nat)=>(i:Int)) (by rw[Å,ê]) hl
 rw[J20] at f;have:m.toNat<=U10 (f90 ps m.toNat l) + l.length:=f;omega
theorem J40(g:c30 m ps):h60 (e90 m ps (Ø m.toNat))=(z20 ps.length).filter (n62 m ps):=by
 unfold h60;rw[show e90 m ps (Ø m.toNat)=(z20 ps.length).filter (b40 ps m.toNat (Ø m.toNat)) from rfl,List.filter_filter];refine É6 λl hl=>?_;have l1:l∈a40 ps.length:=(l10 g.len).mem_iff.mp hl;unfold n62;cases hg:b40 ps m.toNat (Ø m.toNat) l with
 |false=>rw[Ë4,Ë4]
 |true =>
  rw[Æ8,Æ8,À0,decide_eq_true_eq];constructor
  ·intro h;exact(S90 g (Æ1.mpr ⟨(e30 g).mpr ⟨l1,hg⟩,h⟩)).1
  ·intro h;rw[á,List.any_eq_false];intro x hx hc;obtain⟨i,hi,rfl⟩:=Ë.mp hx;have hi:=é.mp hi;obtain⟨q1,q2⟩:=(e30 g).mp (Þ4.mp hc);have:=o02 g (b60 q1) q2;rw[Í8 hi] at this;omega
end
theorem t40:∀ a b:List Nat,z41 (a.map a60) (b.map a60)=decide (a=b)
 |[],[]=>rfl|[],_::_=>rfl|_::_,[]=>rfl
 |x::r,y::q=>by
  show((x:Int) == (y:Int)&&z41 (r.map a60) (q.map a60))=_;rw[t40 r q,À0,À,beq_iff_eq,decide_eq_true_eq,decide_eq_true_eq,List.cons.injEq];exact and_congr_left λ_=>by omega
theorem B70:∀ a b:List Nat,MySort.f10 (j50 a) (j50 b)=TS.c81 a b
 |[],[]=>rfl|[],_::_=>rfl|_::_,[]=>rfl
 |x::r,y::q=>by
  show(if (x:Int)=y then MySort.f10 (j50 r) (j50 q) else decide ((x:Int) < y))=if beq x y=true then TS.c81 r q else Õ0 x y;rw[B70 r q];by_cases e:x=y
  ·rw[if_pos (by rw[e]),if_pos (by rw[beq_eq];exact e)]
  ·rw[if_neg ∅,if_neg (by rw[beq_eq];exact e),À0,decide_eq_true_eq]
   show _↔ble (x + 1) y=true;rw[ble_eq];omega
theorem I71:∀ {a b:List Int} (c d:List Int),a.length=b.length->a≠b->MySort.f10 (a++c) (b++d)=MySort.f10 a b
 |[],[],_,_,_,h=>absurd rfl h|[],_::_,_,_,h,_=>by cases h
 |_::_,[],_,_,h,_=>by cases h
 |x::a,y::b,c,d,h,ne=>by
  show(if x=y then MySort.f10 (a++c) (b++d) else decide (x < y))=if x=y then MySort.f10 a b else decide (x < y);by_cases e:x=y
  ·rw[if_pos e,if_pos e];exact I71 c d (Nat.succ.inj h) λq=>ne (by rw[e,q])
  ·rw[if_neg e,if_neg e]
def pD(c:List Nat->List Nat)(l:List Nat):D:=.tup [b50 l,b50 (c l)]
theorem J50:∀ l:List Nat,v72 (l.map a60)=j50 l
 |[]=>rfl|n::r=>congrArg ((n:Int)::·) (J50 r)
theorem I81(c:List Nat->List Nat)(l:List Nat):flt (pD c l)=j50 l++j50 (c l):=by
 show v72 (l.map a60)++(v72 ((c l).map a60)++[])=_;rw[J50,J50,Ã0]
theorem T00:∀ l:List Nat,L50 (l.map a60) (l.map a60)=true
 |[]=>rfl
 |n::r=>by
  show((n:Int) == (n:Int)&&L50 (r.map a60) (r.map a60))=true;rw[T00 r,beq_self_eq_true];rfl
theorem E82(c:List Nat->List Nat)(l:List Nat):eqT (pD c l) (pD c l)=true:=by
 show(L50 (l.map a60) (l.map a60)&&(L50 ((c l).map a60) ((c l).map a60)&&true))=true;rw[T00,T00];rfl
theorem E92(c:List Nat->List Nat)(l:List Nat):okD (pD c l)=true:=by
 obtain⟨h1,h2⟩:=h51 [l,c l];have h1:g00 [b50 l,b50 (c l)]=true:=h1;have h2:h70 [b50 l,b50 (c l)]<=1:=h2;show(g00 [b50 l,b50 (c l)]&&decide (h70 [b50 l,b50 (c l)] + 1<=40))=true;rw[h1,decide_eq_true ∅];rfl
theorem R12{c:List Nat->List Nat}{a b:List Nat}(hl:a.length=b.length):ltD (pD c a) (pD c b)=some (MySort.f10 (flt (pD c a)) (flt (pD c b))):=by
 by_cases e:a=b
 ·subst e;rw[MySort.c20];show(if eqD (b50 a) (b50 a)=true then(if eqD (b50 (c a)) (b50 (c a))=true then some false else _) else _)=_;have q:∀ l:List Nat,eqD (b50 l) (b50 l)=true:=λl=>(t40 l l).trans (decide_eq_true rfl);rw[if_pos (q a),if_pos (q (c a))]
 ·rw[I81,I81,I71 _ _ (by unfold j50;rw[Å,Å];exact hl) (λq=>e (o21 q)),B70]
  show(if eqD (b50 a) (b50 b)=true then _ else u41 (a.map a60) (b.map a60))=_;rw[show eqD (b50 a) (b50 b)=false from(t40 a b).trans (decide_eq_false e),if_neg Í];exact H10 a b
abbrev P2:=List Nat × List Nat
def pairD(p:P2):D:=.tup [b50 p.1,b50 p.2]
def Bf:List Nat->List Nat->Prop
 |a::r,b::q=>a < b∨(a=b/\Bf r q)|_,_=>False
def sfB(p:P2)(l:List Nat):Bool:=p.1.all (λn=>decide (n∈l))&&p.2.all λn=>!decide (n∈l)
theorem D40{p:P2}{l:List Nat}:sfB p l=true↔(∀ n∈p.1,n∈l)/\∀ n∈p.2,n ∉ l:=by
 unfold sfB;rw[À,Á1,Á1];simp only[decide_eq_true_eq,á,decide_eq_false_iff_not]
def Ap(p q:P2):Prop:=(∃ n∈p.1,n∈q.2)∨∃ n∈q.1,n∈p.2
theorem Ap.no{p q:P2}(h:Ap p q){l:List Nat}(hp:sfB p l=true):sfB q l=false:=by
 cases hq:sfB q l with
 |false=>rfl
 |true =>
  obtain⟨p1,p2⟩:=D40.mp hp;obtain⟨q1,q2⟩:=D40.mp hq;rcases h with ⟨n,a,b⟩ | ⟨n,a,b⟩
  ·exact absurd (p1 n a) (q2 n b)
  ·exact absurd (q1 n a) (p2 n b)
structure Once(K:Nat)(g:List Nat->Bool)(P:List P2):Prop where
 lot:∀ p∈P,p.1∈a40 K/\p.2∈a40 K
 dis:∀ p∈P,∀ n∈p.1,n ∉ p.2
 good:∀ p∈P,g p.1=true
 up:P.Pairwise λp q=>Bf p.1 q.1
 apart:P.Pairwise Ap
 cov:∀ l∈a40 K,g l=true->∃ p∈P,sfB p l=true
def w50(P:List P2)(f:P2->Int):Int:=(P.map f).foldr (· + ·) 0
theorem I91{P:List P2}{f:P2->Int}(h:∀ p∈P,f p=0):w50 P f=0:=by
 induction P with
 |nil=>rfl
 |cons p r ih =>
  show f p + w50 r f=0;rw[h p Ç,ih λq hq=>h q (É _ hq)];rfl
theorem o41{l:List Nat}{w:Int}:∀ {P:List P2},P.Pairwise Ap->w50 P (λp=>if sfB p l then w else 0)=if P.any (λp=>sfB p l) then w else 0
 |[],_=>rfl
 |p::r,h=>by
  obtain⟨h1,h2⟩:=À9.mp h;show(if sfB p l then w else 0) + w50 r _=_;rw[List.any_cons];cases hs:sfB p l with
  |true =>
   rw[I91 λq hq=>by rw[(h1 q hq).no hs];rfl]
   exact add_zero w
  |false =>
   rw[o41 h2];exact Int.zero_add _
theorem J60:∀ a:List (List Nat),i70 a (λ_=>0)=0
 |[]=>rfl|_::r=>by show 0 + i70 r _=0;rw[J60 r];rfl
theorem o51{a:List (List Nat)}{f:P2->List Nat->Int}:∀ P:List P2,i70 a (λl=>w50 P λp=>f p l)=w50 P λp=>i70 a (f p)
 |[]=>J60 a
 |p::r=>by
  show i70 a (λl=>f p l + w50 r λp=>f p l)=i70 a (f p) + w50 r _;rw[T51,o51 r]
theorem T91{K:Nat}{g:List Nat->Bool}{P:List P2}(o:Once K g P)(mono:∀ a b:List Nat,(∀ n∈b,n < K)->(∀ n∈a,n∈b)->g a=true->g b=true)(w:List Nat->Int):i70 (a40 K) (λl=>if g l then w l else 0)=w50 P λp=>i70 (a40 K) λl=>if sfB p l then w l else 0:=by
 rw[← o51];refine t30 λl hl=>?_;rw[o41 o.apart]
 congr 1
 rw[eq_iff_iff,any_eq_true];constructor
 ·exact λh=>o.cov l hl h
 ·rintro ⟨p,hp,hs⟩;exact mono _ _ (b60 hl) (D40.mp hs).1 (o.good p hp)
section
variable {c:Nat->Int × Int}
def K91(c:Nat->Int × Int)(p:P2)(n:Nat):Int:=if n∈p.1 then(c n).1 else if n∈p.2 then(c n).2 - (c n).1 else(c n).2
def pwF(c:Nat->Int × Int)(p:P2):Nat->Int
 |0=>1|j + 1=>pwF c p j * K91 c p j
def sfJ(p:P2)(j:Nat)(l:List Nat):Bool:=(Ø j).all λn=>(!decide (n∈p.1) || decide (n∈l))&&(!decide (n∈p.2) || !decide (n∈l))
theorem h61{p:P2}{j:Nat}{l:List Nat}:sfJ p j l=true↔∀ n < j,(n∈p.1->n∈l)/\(n∈p.2->n ∉ l):=by
 unfold sfJ;rw[Á1];refine forall_congr' λn=>?_;rw[Ì6];refine forall_congr' λ_=>?_;rw[À,Â9,Â9];simp only[á,decide_eq_false_iff_not,decide_eq_true_eq,Decidable.imp_iff_not_or]
theorem o61{p:P2}{j:Nat}{l:List Nat}:sfJ p (j + 1) l=(sfJ p j l&&((!decide (j∈p.1) || decide (j∈l))&&(!decide (j∈p.2) || !decide (j∈l)))):=by
 unfold sfJ;rw[range_succ,List.all_append,Ã6,all_nil,Æ8]
theorem o12{p:P2}{j k:Nat}{l:List Nat}(h:j<=k):sfJ p j (l++[k])=sfJ p j l:=by
 rw[À0,h61,h61];refine forall_congr' λn=>forall_congr' λhn=>?_;have:n∈l++[k]↔n∈l:=by rw[Ç7,ð];exact⟨λq=>q.elim id λe=>by omega,.inl⟩
 rw[this]
theorem J01{p:P2}(hd:∀ n∈p.1,n ∉ p.2):∀ j,i70 (a40 j) (λl=>if sfJ p j l then amt c j l else 0)=pwF c p j
 |0=>rfl
 |j + 1=>by
  show i70 (a40 j++(a40 j).map (·++[j])) _=pwF c p j * K91 c p j;rw[m71,m81,← J01 hd j];have e1:i70 (a40 j) (λl=>if sfJ p (j + 1) l then amt c (j + 1) l else 0)=(if j∈p.1 then 0 else(c j).2 - (c j).1) * i70 (a40 j) λl=>if sfJ p j l then amt c j l else 0:=by
   refine F00 λl hl=>?_;have hj:j ∉ l:=λq=>À1 _ (b60 hl j q);rw[o61,k00,if_neg hj,decide_eq_false hj];by_cases h:j∈p.1
   ·rw[if_pos h,decide_eq_true h];simp
   ·rw[if_neg h,decide_eq_false h];cases sfJ p j l with
    |true=>simp;rw[Â3]|false=>simp
  have e2:i70 (a40 j) (λl=>if sfJ p (j + 1) (l++[j]) then amt c (j + 1) (l++[j]) else 0)=(if j∈p.2 then 0 else(c j).1) * i70 (a40 j) λl=>if sfJ p j l then amt c j l else 0:=by
   refine F00 λl hl=>?_;have hj:j∈l++[j]:=Ú _ (ù.mpr rfl);rw[o61,k00,if_pos hj,decide_eq_true hj,H71 (Ê j),o12 (Ê j)];by_cases h:j∈p.2
   ·rw[if_pos h,decide_eq_true h];simp
   ·rw[if_neg h,decide_eq_false h];cases sfJ p j l with
    |true=>simp;rw[Â3]|false=>simp
  rw[e1,e2,← Int.add_mul,Â3]
  congr 1
  unfold K91;by_cases h1:j∈p.1
  ·rw[if_pos h1,if_pos h1,if_neg (hd j h1)];omega
  ·rw[if_neg h1,if_neg h1];by_cases h2:j∈p.2
   ·rw[if_pos h2,if_pos h2];omega
   ·rw[if_neg h2,if_neg h2];omega
theorem J11{K:Nat}{p:P2}(hd:∀ n∈p.1,n ∉ p.2)(h1:∀ n∈p.1,n < K)(h2:∀ n∈p.2,n < K):i70 (a40 K) (λl=>if sfB p l then amt c K l else 0)=pwF c p K:=by
 rw[← J01 hd];refine t30 λl _=>?_
 congr 1
 rw[eq_iff_iff,D40,h61];exact⟨λh n _=>⟨h.1 n,h.2 n⟩,λh=>⟨λn hn=>(h n (h1 n hn)).1 hn,λn hn=>(h n (h2 n hn)).2 hn⟩⟩
end
def rest(K:Nat)(lack:List Nat):List Nat:=(Ø K).filter λn=>!lack.contains n
theorem J21{w v:PySem.Str}(h:À7 w=true)(h2:À7 v=true):E40 .eq (.str w) (.str v)=some (w == v):=by
 show(if okD (.str w)&&okD (.str v) then some (w == v) else _)=_;rw[show okD (.str w)=true from by show(À7 w&&true)=true;rw[h];rfl,show okD (.str v)=true from by show(À7 v&&true)=true;rw[h2];rfl];rfl
theorem o22{i:Int}{l:List Nat}:r91 (.int i) (l.map a60)=some (decide (0<=i)&&decide (i.toNat∈l)):=by
 by_cases h:0<=i
 ·obtain⟨n,rfl⟩:=Ê7 h;rw[decide_eq_true h,Á3,Ä0];exact g91
 ·unfold r91;rw[Z90,decide_eq_false h,Å5];show some (memD (.int i) (l.map a60))=some false
  congr 1
  induction l with
  |nil=>rfl
  |cons x r ih =>
   show((x:Int) == i || memD (.int i) (r.map a60))=false;rw[ih,Bool.or_false,beq_eq_false_iff_ne];omega
theorem U01{K n:Nat}{lack:List Nat}:(rest K lack).filter (λk=>!(k == n))=rest K (lack++[n]):=by
 unfold rest;rw[List.filter_filter];refine É6 λk _=>?_;rw[Æ3,Æ3,← Bool.not_or,Bool.not_inj_iff,À0,Â9,beq_iff_eq,decide_eq_true_eq,decide_eq_true_eq,Ç7,ð,Or.comm]
theorem t50{K n:Nat}{lack:List Nat}:n∈rest K lack↔n < K/\n ∉ lack:=by
 unfold rest;rw[Æ9,Ì6,á,Æ3,decide_eq_false_iff_not]
theorem a21(k:Nat){K n:Nat}{lack:List Nat}(hK:K<=8)(z:Z):a70 T (k + 3) I20 [.d (.tup ((rest K lack).map a60)),.d (a60 n)] z=some (.ok (.d (.tup ((rest K (lack++[n])).map a60))) z):=by
 have hl:(rest K lack).length<=8:=Ù (Ç2 _ _) (by rw[ê];exact hK)
 refine W.ok (f40 (ps:=2) (ns:=2) (b:=w00) rfl rfl (-0) (ip (by rw[Å];simp only[most];omega) (l42 (λx=>match x with | .int i=>!(i == (n:Int)) | _=>true) (λx=>x) (λy hy=>?_) ?_)))
 ·obtain⟨p,hp,rfl⟩:=Ë.mp hy;exact⟨rfl,rfl,λ_=>⟨rfl,rfl⟩⟩
 ·rw[map_id',m91];refine sd ?_;show S.d (.tup _)=_;rw[← U01]
  congr 3
  refine É6 λk _=>?_;show(!((k:Int) == (n:Int)))=_;rw[Bool.not_inj_iff,À0,beq_iff_eq,beq_iff_eq];omega
structure Dec(K r:Nat)(held lack:List Nat):Prop where
 up1:held.Pairwise (· < ·)
 up2:lack.Pairwise (· < ·)
 le:r<=K
 all:∀ n,(n∈held∨n∈lack)↔n < K - r
 dis:∀ n∈held,n ∉ lack
theorem J31{l:List Nat}{j:Nat}(h:l.Pairwise (· < ·))(hl:∀ n∈l,n < j):(l++[j]).Pairwise (· < ·):=by
 rw[Ê4];exact⟨h,Å7 _ _,λa ha b hb=>by rw[ð] at hb;rw[hb];exact hl a ha⟩
section
variable {K r:Nat}{held lack:List Nat}
theorem Dec.h1(d:Dec K r held lack):∀ n∈held,n < K - r:=λn hn=>(d.all n).mp (.inl hn)
theorem Dec.h2(d:Dec K r held lack):∀ n∈lack,n < K - r:=λn hn=>(d.all n).mp (.inr hn)
theorem Dec.hold(d:Dec K (r + 1) held lack):Dec K r (held++[K - (r + 1)]) lack:=by
 have le:=d.le;refine⟨J31 d.up1 d.h1,d.up2,by omega,λn=>?_,λn hn q=>?_⟩
 ·have:=d.all n;rw[Ç7,ð];constructor
  ·rintro ((q | q) | q)
   ·have:=d.h1 n q;omega
   ·omega
   ·have:=d.h2 n q;omega
  ·intro q;by_cases e:n=K - (r + 1)
   ·exact .inl (.inr e)
   ·exact(this.mpr ∅).elim (λz=>.inl (.inl z)) .inr
 ·rcases ó.mp hn with hn | hn
  ·exact d.dis n hn q
  ·rw[ð] at hn;have:=d.h2 n q;omega
theorem Dec.lak(d:Dec K (r + 1) held lack):Dec K r held (lack++[K - (r + 1)]):=by
 have le:=d.le;refine⟨d.up1,J31 d.up2 d.h2,by omega,λn=>?_,λn hn q=>?_⟩
 ·have:=d.all n;rw[Ç7,ð];constructor
  ·rintro (q | (q | q))
   ·have:=d.h1 n q;omega
   ·have:=d.h2 n q;omega
   ·omega
  ·intro q;by_cases e:n=K - (r + 1)
   ·exact .inr (.inr e)
   ·exact(this.mpr ∅).elim .inl λz=>.inr (.inl z)
 ·rcases ó.mp q with q | q
  ·exact d.dis n hn q
  ·rw[ð] at q;have:=d.h1 n hn;omega
theorem Dec.start(K:Nat):Dec K K [] []:=⟨.nil,.nil,Ê _,λn=>⟨λh=>(by rcases h with h | h <;> cases h),λh=>by omega⟩,λ_ h=>nomatch h⟩
theorem a22{a b:Nat}(h:a < b){x y:List Nat}:∀ p:List Nat,Bf (p++a::x) (p++b::y)
 |[]=>.inl h|_::r=>.inr ⟨rfl,a22 h r⟩
end
def endsF(g:List Nat->Bool)(K:Nat):Nat->List Nat->List Nat->List P2
 |0,held,lack=>if g held then [(held,lack)] else []|r + 1,held,lack=>if g held then [(held,lack)] else if g (rest K lack) then endsF g K r (held++[K - (r + 1)]) lack++endsF g K r held (lack++[K - (r + 1)]) else []
section
variable {g:List Nat->Bool}{K:Nat}
theorem F02{r:Nat}{held lack:List Nat}{p:P2}(h:p∈endsF g K (r + 1) held lack):(g held=true/\p=(held,lack))∨(g held=false/\(p∈endsF g K r (held++[K - (r + 1)]) lack∨p∈endsF g K r held (lack++[K - (r + 1)]))):=by
 unfold endsF at h;cases h1:g held with
 |true=>rw[h1,if_pos rfl,ð] at h;exact .inl ⟨rfl,h⟩
 |false =>
  rw[h1,if_neg Í] at h;split at h
  ·exact .inr ⟨rfl,ó.mp h⟩
  ·cases h
theorem z60:∀ {r:Nat}{held lack:List Nat}{p:P2},Dec K r held lack->p∈endsF g K r held lack->∃ x y,p.1=held++x/\p.2=lack++y/\(∀ n∈x,K - r<=n)/\g p.1=true/\∃ q,Dec K q p.1 p.2
 |0,held,lack,p,d,h=>by
  unfold endsF at h;cases h1:g held with
  |true =>
   rw[h1,if_pos rfl,ð] at h;subst h;exact⟨[],[],(Ã0 _).symm,(Ã0 _).symm,(λ_ q=>nomatch q),h1,_,d⟩
  |false=>rw[h1,if_neg Í] at h;cases h
 |r + 1,held,lack,p,d,h=>by
  have le:=d.le;rcases F02 h with ⟨h1,rfl⟩ | ⟨_,h | h⟩
  ·exact⟨[],[],(Ã0 _).symm,(Ã0 _).symm,(λ_ q=>nomatch q),h1,_,d⟩
  ·obtain⟨x,y,e1,e2,h2,h3,h4⟩:=z60 d.hold h;refine⟨(K - (r + 1))::x,y,by rw[e1,Ä1];rfl,e2,λn hn=>?_,h3,h4⟩
   rcases à.mp hn with rfl | hn
   ·exact Ê _
   ·have:=h2 n hn;omega
  ·obtain⟨x,y,e1,e2,h2,h3,h4⟩:=z60 d.lak h;exact⟨x,(K - (r + 1))::y,e1,by rw[e2,Ä1];rfl,λn hn=>by have:=h2 n hn;omega,h3,h4⟩
theorem M80{r:Nat}{held lack:List Nat}{p q:P2}(d:Dec K (r + 1) held lack)(hg:g held=false)(hp:p∈endsF g K r (held++[K - (r + 1)]) lack)(hq:q∈endsF g K r held (lack++[K - (r + 1)])):Bf p.1 q.1/\Ap p q:=by
 have le:=d.le;obtain⟨x,y,e1,e2,h2,h3,h4⟩:=z60 d.hold hp;obtain⟨x',y',f1,f2,k2,k3,k4⟩:=z60 d.lak hq;constructor
 ·cases x' with
  |nil=>rw[Ã0] at f1;rw[f1,hg] at k3;cases k3
  |cons b x' =>
   rw[e1,f1,Ä1];exact a22 (by have:=k2 b Ç;omega) held
 ·refine .inl ⟨K - (r + 1),?_,?_⟩
  ·rw[e1];exact Á4 _ (Ú _ (ù.mpr rfl))
  ·rw[f2];exact Á4 _ (Ú _ (ù.mpr rfl))
theorem z70{R:P2->P2->Prop}(hR:∀ {r:Nat}{held lack:List Nat}{p q:P2},Dec K (r + 1) held lack->g held=false->p∈endsF g K r (held++[K - (r + 1)]) lack->q∈endsF g K r held (lack++[K - (r + 1)])->R p q):∀ {r:Nat}{held lack:List Nat},Dec K r held lack->(endsF g K r held lack).Pairwise R
 |0,held,lack,_=>by
  unfold endsF;split
  ·exact Å7 _ _
  ·exact .nil
 |r + 1,held,lack,d=>by
  unfold endsF;cases h1:g held with
  |true=>rw[if_pos rfl];exact Å7 _ _
  |false =>
   rw[if_neg Í];split
   ·exact List.pairwise_append.mpr ⟨z70 hR d.hold,z70 hR d.lak,λp hp q hq=>hR d h1 hp hq⟩
   ·exact .nil
theorem T10(mono:∀ a b:List Nat,(∀ n∈b,n < K)->(∀ n∈a,n∈b)->g a=true->g b=true){l:List Nat}(hl:∀ n∈l,n < K)(hg:g l=true):∀ {r:Nat}{held lack:List Nat},Dec K r held lack->(∀ n∈held,n∈l)->(∀ n∈lack,n ∉ l)->∃ p∈endsF g K r held lack,sfB p l=true
 |0,held,lack,d,a1,a2=>by
  have:g held=true:=mono l held (λn hn=>by have:=d.h1 n hn;omega) (λn hn=>((d.all n).mpr (by have:=hl n hn;omega)).elim id λq=>absurd hn (a2 n q)) hg
  refine⟨(held,lack),?_,D40.mpr ⟨a1,a2⟩⟩;unfold endsF;rw[this,if_pos rfl];exact ù.mpr rfl
 |r + 1,held,lack,d,a1,a2=>by
  have le:=d.le;cases h1:g held with
  |true =>
   refine⟨(held,lack),?_,D40.mpr ⟨a1,a2⟩⟩;unfold endsF;rw[h1,if_pos rfl];exact ù.mpr rfl
  |false =>
   have h2:g (rest K lack)=true:=mono l _ (λn hn=>(t50.mp hn).1) (λn hn=>t50.mpr ⟨hl n hn,λq=>a2 n q hn⟩) hg;have e:endsF g K (r + 1) held lack=endsF g K r (held++[K - (r + 1)]) lack++endsF g K r held (lack++[K - (r + 1)]):=by
    show(if g held then _ else if g (rest K lack) then _ else _)=_;rw[h1,if_neg Í,h2,if_pos rfl]
   rw[e];by_cases hj:K - (r + 1)∈l
   ·obtain⟨p,hp,hs⟩:=T10 mono hl hg d.hold (λn hn=>(ó.mp hn).elim (a1 n) λq=>by rw[ð] at q;rw[q];exact hj) a2
    exact⟨p,Á4 _ hp,hs⟩
   ·obtain⟨p,hp,hs⟩:=T10 mono hl hg d.lak a1 λn hn=>(ó.mp hn).elim (a2 n) λq=>by rw[ð] at q;rw[q];exact hj
    exact⟨p,Ú _ hp,hs⟩
abbrev o32(g:List Nat->Bool)(K:Nat):List P2:=endsF g K K [] []
theorem a31(mono:∀ a b:List Nat,(∀ n∈b,n < K)->(∀ n∈a,n∈b)->g a=true->g b=true):Once K g (o32 g K):=by
 have pre:=λ{p:P2} (hp:p∈o32 g K)=>z60 (Dec.start K) hp;refine⟨λp hp=>?_,λp hp=>?_,λp hp=>?_,z70 (λd h hp hq=>(M80 d h hp hq).1) (Dec.start K),z70 (λd h hp hq=>(M80 d h hp hq).2) (Dec.start K),λl hl hg=>T10 mono (b60 hl) hg (Dec.start K) (λ_ h=>nomatch h) λ_ h=>nomatch h⟩
 ·obtain⟨_,_,_,_,_,_,q,d⟩:=pre hp;exact⟨m20 d.up1 λn hn=>by have:=d.h1 n hn;omega,m20 d.up2 λn hn=>by have:=d.h2 n hn;omega⟩
 ·obtain⟨_,_,_,_,_,_,q,d⟩:=pre hp;exact d.dis
 ·obtain⟨_,_,_,_,_,h,_⟩:=pre hp;exact h
end
def T92:D->D
 |.tup (a::_)=>a|_=>.non
section
variable {m:Int}{ps:List (Int × Int)}{tree:List Nat}{s e:Nat}
theorem c30.at_(g:c30 m ps){n:Nat}(hn:n < ps.length):T90 (.tup (ps.map pr)) (a60 n)=some (.tup [a60 (tA ps n),a60 (tB ps n)]):=by
 show T90 (.tup (ps.map pr)) (.int n)=_;rw[Z61 hn,show ps.getD n (0,0)=pf ps n from rfl,(g.ab hn).2.2];rfl
end
section
variable {m:Int}{ps:List (Int × Int)}{tree lot pl:List Nat}
theorem c30.all(g:c30 m ps):g90 m (Ø m.toNat):=⟨λe=>by have:=congrArg Ú6 e;rw[ê] at this;have:=g.m1;simp at *;omega,Ä8,λp hp=>by have:=é.mp hp;omega⟩
theorem T20(k:Nat)(g:c30 m ps)(z:Z):a70 T (k + 3) C20 [.d (D10 m ps)] z=some (.ok (.d (.tup ((Ø m.toNat).map a60))) z):=by
 have m1:=g.m1;have m6:=g.m6;refine W.ok (f40 (ps:=1) (ns:=1) (b:=r20) rfl rfl (-0) ?_)
 refine(a00 (o:=lrD [.int m]) (K60 ∅ ∅) ?_ :)
 exact sd rfl
abbrev o10(tree:List Nat)(n:Nat):List Nat:=tree.filter λk=>decide (k < n)
def U11(m:Int)(ps:List (Int × Int))(tree:List Nat)(n:Nat):Bool:=!b40 ps m.toNat [tA ps n,tB ps n] (o10 tree n)
theorem J41(k:Nat)(g:c30 m ps)(ht:∀ n∈tree,n < ps.length)(h8:tree.length<=8){n:Nat}(hn:n < ps.length)(z:Z):a70 T (k + 5) p80 [.d (D10 m ps),.d (b50 tree),.d (a60 n)] z=some (.ok (.d (.bl (U11 m ps tree n))) z):=by
 refine W.ok (f40 (k:=k + 2) (ps:=3) (ns:=4) (b:=j30) rfl rfl (-0) ?_)
 refine(l52 (.d (b50 (o10 tree n))) [some (.d (D10 m ps)),some (.d (b50 tree)),some (.d (a60 n)),some (.d (b50 (o10 tree n)))] ?_ ?_ ?_ :)
 ·refine ip (by rw[Å];exact h40 ∅) (l42 (λx=>match x with | .int i=>decide (i < (n:Int)) | _=>false) id (λx hx=>?_) ?_)
  ·obtain⟨j,hj,rfl⟩:=Ë.mp hx;exact⟨rfl,rfl,λ_=>⟨rfl,rfl⟩⟩
  ·rw[Ô5,Î8];have e:tree.filter ((λx=>match x with | .int i=>decide (i < (n:Int)) | _=>false) ∘ a60)=o10 tree n:=É6 λj _=>by
    show decide ((j:Int) < n)=decide (j < n);rw[À0,decide_eq_true_eq,decide_eq_true_eq];omega
   rw[e];exact⟨rfl,rfl⟩
 ·rw[F41 (show K20 (.d (b50 (o10 tree n)))=true from i10 _)];rfl
 refine(a00 (g.at_ hn) ?_ :);exact Wo (b90 k g (g.two hn) (Row.t (o10 tree n)) (λj hj=>ht j (Æ1.mp hj).1) z) (sb rfl)
def K80(m:Int)(ps:List (Int × Int))(tree:List Nat):List Nat:=(t51 ps.length tree).filter (U11 m ps tree)
theorem a41(k:Nat)(g:c30 m ps)(ht:∀ n∈tree,n < ps.length)(h8:tree.length<=8)(z:Z):a70 T (k + 6) I30 [.d (D10 m ps),.d (b50 tree)] z=some (.ok (.d (pD (K80 m ps) tree)) z):=by
 have p8:=g.len;refine W.ok (f40 (k:=k + 3) (ps:=2) (ns:=3) (b:=w20) rfl rfl (-0) (Wo (S60 (k + 2) g.len tree z) ?_))
 have cl:(t51 ps.length tree).length<=8:=Ù (Ç2 _ _) (by rw[ê];exact p8)
 refine ip (by rw[Å];exact h40 ∅) (l42 (λx=>U11 m ps tree (n72 x)) id (λx hx=>?_) ?_)
 ·obtain⟨j,hj,rfl⟩:=Ë.mp hx;refine Wo (J41 k g ht h8 (m92 hj) z) ⟨rfl,rfl,λ_=>⟨rfl,rfl⟩⟩
 ·rw[Ô5,Î8];exact sd rfl
theorem U21(g:c30 m ps){l:List Nat}(h:l∈h60 (e90 m ps pl)):∀ n∈l,n < ps.length:=b60 ((e30 g).mp (i80 h)).1
abbrev a32(m:Int)(ps:List (Int × Int)):D:=.tup ((h60 (e90 m ps (Ø m.toNat))).map (pD (K80 m ps)))
theorem K90(k:Nat)(g:c30 m ps)(z:Z):a70 T (k + 12) y50 [.d (D10 m ps)] z=some (.ok (.d (a32 m ps)) z):=by
 refine W.ok (f40 (k:=k + 9) (ps:=1) (ns:=1) (b:=o90) rfl rfl (-0) (Wo (i60 (k + 3) z g.web) (Wo (T20 (k + 8) g z) (Wo (z50 (k + 1) g g.all z) ?_))))
 refine ip (by rw[Å];exact h40 (Ù (Ù I61 (o31 g)) (-0))) (I00 (λx=>pD (K80 m ps) (l60 x)) (λx hx=>?_) ?_)
 ·obtain⟨l,hl,rfl⟩:=Ë.mp hx;refine Wo (a41 (k + 5) g (U21 g hl) (b93 g hl) z) ⟨?_,rfl⟩;rw[e20]
 ·refine sd ?_;rw[Ü];exact congrArg (λl=>S.d (.tup l)) (Á9 λl _=>by show pD (K80 m ps) (l60 (b50 l))=pD (K80 m ps) l;rw[e20])
end
theorem o42{a b:List Nat}(ha:a.Pairwise (· < ·))(hb:b.Pairwise (· < ·))(h1:∀ n∈a,n∈b)(h2:∀ n∈b,n∈a):a=b:=by
 have na:a.Nodup:=ha.imp λh=>ß h;have nb:b.Nodup:=hb.imp λh=>ß h;have p:=(Å8 na nb).mpr λn=>⟨h1 n,h2 n⟩;exact p.eq_of_pairwise (le:=(· < ·)) (λx y _ _ h1 h2=>absurd h1 (Nat.not_lt.mpr (Í5 h2))) ha hb
theorem a42:∀ {a b:List Nat},a.length=b.length->TS.c81 a b=true->Bf a b
 |[],[],_,h=>by cases h
 |[],_::_,h,_=>by cases h
 |_::_,[],h,_=>by cases h
 |x::r,y::q,hl,h=>by
  have h:(if beq x y=true then TS.c81 r q else Õ0 x y)=true:=h;by_cases e:x=y
  ·rw[if_pos (by rw[beq_eq];exact e)] at h
   exact .inr ⟨e,a42 (Nat.succ.inj hl) h⟩
  ·rw[if_neg (by rw[beq_eq];exact e)] at h
   exact .inl (Nat.ble_eq.mp h)
def upS:List (List Nat)->Bool
 |[]=>true|x::r=>r.all (λy=>TS.c81 x y)&&upS r
theorem a52:∀ {l:List (List Nat)},upS l=true->l.Pairwise λx y=>TS.c81 x y=true
 |[],_=>.nil
 |x::r,h=>by
  have h:(r.all (λy=>TS.c81 x y)&&upS r)=true:=h;rw[À,Á1] at h;exact À9.mpr ⟨h.1,a52 h.2⟩
theorem U31{k:Nat}(h:k<=8):(z20 k).Pairwise λx y=>TS.c81 x y=true:=by
 have:∀ k,k < 9->upS (z20 k)=true:=by decide +kernel
 exact a52 (this k ∅)
theorem t61{K:Nat}{a b:List Nat}(ha:a∈a40 K)(hb:b∈a40 K)(ne:a≠b):∃ t,t < K/\((t∈a/\t ∉ b)∨(t∈b/\t ∉ a))/\∀ n < t,(n∈a↔n∈b):=by
 have hm:∀ n,n∈(Ø K).filter (λn=>decide (n∈a) != decide (n∈b))↔n < K/\¬ (n∈a↔n∈b):=λn=>by
  rw[Æ9,Ì6];by_cases h1:n∈a <;> by_cases h2:n∈b <;> simp[h1,h2]
 have hs:((Ø K).filter (λn=>decide (n∈a) != decide (n∈b))).Pairwise (· < ·):=À6 _ Ä8;cases e:(Ø K).filter (λn=>decide (n∈a) != decide (n∈b)) with
 |nil =>
  refine absurd (o42 (e50 ha) (e50 hb) (λn hn=>?_) λn hn=>?_) ne
  ·apply Í2;intro q;have:=(hm n).mpr ⟨b60 ha n hn,λz=>q (z.mp hn)⟩;rw[e] at this;cases this
  ·apply Í2;intro q;have:=(hm n).mpr ⟨b60 hb n hn,λz=>q (z.mpr hn)⟩;rw[e] at this;cases this
 |cons t r =>
  rw[e] at hs hm;obtain⟨h1,h2⟩:=(hm t).mp Ç;refine⟨t,h1,?_,λn hn=>?_⟩
  ·by_cases q1:t∈a
   ·exact .inl ⟨q1,λq2=>h2 ⟨λ_=>q2,λ_=>q1⟩⟩
   ·by_cases q2:t∈b
    ·exact .inr ⟨q2,q1⟩
    ·exact absurd ⟨λz=>absurd z q1,λz=>absurd z q2⟩ h2
  ·apply Í2;intro q;rcases à.mp ((hm n).mpr ⟨by omega,q⟩) with z | z
   ·omega
   ·have:=Î9 hs z;omega
section
variable {m:Int}{ps:List (Int × Int)}
theorem F30{l:List Nat}{n:Nat}:n∈K80 m ps l↔n < ps.length/\n ∉ l/\b40 ps m.toNat [tA ps n,tB ps n] (o10 l n)=false:=by
 unfold K80 U11;rw[Æ9,n32,á,and_assoc]
theorem T30(g:c30 m ps){n:Nat}(hn:n < ps.length){l:List Nat}(hl:∀ k∈l,k < ps.length):b40 ps m.toNat [tA ps n,tB ps n] l=true↔∀ f:Nat->Int,(∀ k∈l,f (tA ps k)=f (tB ps k))->f (tA ps n)=f (tB ps n):=by
 rw[I51 g (g.two hn) hl];refine forall_congr' λf=>forall_congr' λ_=>?_;constructor
 ·exact λh=>h _ Ç _ (É _ Ç)
 ·intro h;have two:∀ x∈[tA ps n,tB ps n],f x=f (tA ps n):=λx hx=>by
   rcases à.mp hx with rfl | hx
   ·rfl
   ·rw[ð] at hx;rw[hx,h]
  exact λp hp q hq=>by rw[two p hp,two q hq]
theorem e80{l:List Nat}{n k:Nat}:k∈o10 l n↔k∈l/\k < n:=by
 unfold o10;rw[Æ9,decide_eq_true_eq]
theorem a51(g:c30 m ps){a b:List Nat}(ha:a∈h60 (e90 m ps (Ø m.toNat)))(hb:∀ n∈b,n < ps.length){t:Nat}(h1:t∈a)(h2:t ∉ b)(h3:∀ n < t,(n∈a↔n∈b)):t∈K80 m ps b:=by
 have tK:=U21 g ha t h1;refine F30.mpr ⟨tK,h2,?_⟩;cases h:b40 ps m.toNat [tA ps t,tB ps t] (o10 b t) with
 |false=>rfl
 |true =>
  obtain⟨f,f2,f3⟩:=n52 g ha h1;refine absurd ((T30 g tK λk hk=>hb k (e80.mp hk).1).mp h f λk hk=>?_) f3;obtain⟨k1,k2⟩:=e80.mp hk;exact f2 k ((h3 k k2).mpr k1) ∅
def h71(m:Int)(ps:List (Int × Int))(G:List Nat):List Nat:=G.filter λn=>!b40 ps m.toNat [tA ps n,tB ps n] (o10 G n)
theorem w60{G:List Nat}{n:Nat}:n∈h71 m ps G↔n∈G/\b40 ps m.toNat [tA ps n,tB ps n] (o10 G n)=false:=by
 unfold h71;rw[Æ9,á]
theorem F12(g:c30 m ps){G:List Nat}(hG:∀ n∈G,n < ps.length){f:Nat->Int}{b:Nat}(h:∀ k∈o10 (h71 m ps G) b,f (tA ps k)=f (tB ps k)):∀ n,n∈o10 G b->f (tA ps n)=f (tB ps n):=λn=>by
 induction n using Û8 with
 |ind n ih =>
  intro hn;obtain⟨n1,n2⟩:=e80.mp hn;cases hg:b40 ps m.toNat [tA ps n,tB ps n] (o10 G n) with
  |false=>exact h n (e80.mpr ⟨w60.mpr ⟨n1,hg⟩,n2⟩)
  |true =>
   refine(T30 g (hG n n1) λk hk=>hG k (e80.mp hk).1).mp hg f λk hk=>?_;obtain⟨k1,k2⟩:=e80.mp hk;exact ih k k2 (e80.mpr ⟨k1,by omega⟩)
theorem U41(g:c30 m ps){G:List Nat}(hG:G∈a40 ps.length)(hg:b40 ps m.toNat (Ø m.toNat) G=true):h71 m ps G∈h60 (e90 m ps (Ø m.toNat)):=by
 have gl:=b60 hG;have tl:∀ n∈h71 m ps G,n < ps.length:=λn hn=>gl n (w60.mp hn).1;have tr:(h71 m ps G).Pairwise (· < ·):=(e50 hG).sublist List.filter_sublist;have hr:∀ p∈Ø m.toNat,p < m.toNat:=λp hp=>é.mp hp;have tg:b40 ps m.toNat (Ø m.toNat) (h71 m ps G)=true:=(p40 g.rng hr tl).mpr λf hf=>(p40 g.rng hr gl).mp hg f λn hn =>
  F12 g gl (b:=ps.length) (λk hk=>hf k (e80.mp hk).1) n (e80.mpr ⟨hn,gl n hn⟩)
 have f:=S80 (ps:=ps) g.rng (h71 m ps G) ((Ø m.toNat).map λ(i:Nat)=>(i:Int)) (by rw[Å,ê]) tl λp n q e same=>by
  have hn:n∈h71 m ps G:=by rw[e];exact Ú _ Ç
  have hp:∀ k∈p,k∈o10 G n:=λk hk=>by
   rw[e,Ê4] at tr;exact e80.mpr ⟨(w60.mp (by rw[e];exact Á4 _ hk)).1,tr.2.2 k hk n Ç⟩
  have hb:b40 ps m.toNat [tA ps n,tB ps n] p=true:=by
   unfold b40 H51;show(_ == _&&(_ == _&&true))=true;rw[Æ8,À,beq_iff_eq,beq_iff_eq];exact⟨rfl,same.symm⟩
  have:=S20 g (g.two (tl n hn)) p (o10 G n) (λk hk=>gl k (e80.mp hk).1) hp hb;rw[(w60.mp hn).2] at this;cases this
 rw[J20] at f;have n1:U10 (f90 ps m.toNat (h71 m ps G))=1:=(S70 g _).mpr tg;have f:U10 (f90 ps m.toNat (h71 m ps G)) + (h71 m ps G).length=m.toNat:=f;have m1:=g.m1;rw[J40 g];refine Æ1.mpr ⟨(l10 g.len).mem_iff.mpr (m20 tr tl),?_⟩;unfold n62;rw[tg,decide_eq_true ∅];rfl
abbrev z80(m:Int)(ps:List (Int × Int)):List P2:=(h60 (e90 m ps (Ø m.toNat))).map λl=>(l,K80 m ps l)
theorem J51(g:c30 m ps):Once ps.length (b40 ps m.toNat (Ø m.toNat)) (z80 m ps):=by
 have up:(h60 (e90 m ps (Ø m.toNat))).Pairwise λx y=>TS.c81 x y=true:=by
  rw[J40 g];exact À6 _ (U31 g.len)
 refine⟨λp hp=>?_,λp hp=>?_,λp hp=>?_,?_,?_,λl hl hg=>?_⟩
 ·obtain⟨l,hl,rfl⟩:=Ë.mp hp;exact⟨((e30 g).mp (i80 hl)).1,m20 (À6 _ (À6 _ Ä8)) λn hn=>(F30.mp hn).1⟩
 ·obtain⟨l,hl,rfl⟩:=Ë.mp hp;exact λn hn q=>(F30.mp q).2.1 hn
 ·obtain⟨l,hl,rfl⟩:=Ë.mp hp;exact((e30 g).mp (i80 hl)).2
 ·rw[Í7];refine Ö9 (λ{a b} ha hb h=>a42 ?_ h) up;have h1:=(S90 g ha).1;have h2:=(S90 g hb).1;show a.length=b.length;omega
 ·rw[Í7];refine Ö9 (λ{a b} ha hb h=>?_) up;have ne:a≠b:=λe=>by
   subst e;rw[← B70,MySort.c20] at h;cases h
  obtain⟨t,_,h1,h2⟩:=t61 ((e30 g).mp (i80 ha)).1 ((e30 g).mp (i80 hb)).1 ne;rcases h1 with ⟨q1,q2⟩ | ⟨q1,q2⟩
  ·exact .inl ⟨t,q1,a51 g ha (U21 g hb) q1 q2 h2⟩
  ·exact .inr ⟨t,q1,a51 g hb (U21 g ha) q1 q2 λn hn=>(h2 n hn).symm⟩
 ·refine⟨(h71 m ps l,K80 m ps (h71 m ps l)),Ë.mpr ⟨_,U41 g hl hg,rfl⟩,D40.mpr ⟨λn hn=>(w60.mp hn).1,λn hn q=>?_⟩⟩;obtain⟨n1,n2,n3⟩:=F30.mp hn;have h:b40 ps m.toNat [tA ps n,tB ps n] (o10 l n)=true:=by
   cases h:b40 ps m.toNat [tA ps n,tB ps n] (o10 l n) with
   |true=>rfl|false=>exact absurd (w60.mpr ⟨q,h⟩) n2
  have gl:=b60 hl;have:b40 ps m.toNat [tA ps n,tB ps n] (o10 (h71 m ps l) n)=true:=(T30 g n1 λk hk=>gl k (w60.mp (e80.mp hk).1).1).mpr λf hf =>
   (T30 g n1 λk hk=>gl k (e80.mp hk).1).mp h f λk hk=>F12 g gl hf k hk
  rw[n3] at this;cases this
end
def c80(l:List Nat):Nat:=(l.map λn=>2 ^ n).sum
theorem a61:∀ m < 256,c80 (TS.A40 8 0 m)=m:=by decide +kernel
section
variable {K:Nat}{a b:List Nat}
theorem o71(h8:K<=8)(h:a∈a40 K):a∈a40 8:=m20 (e50 h) λn hn=>by have:=b60 h n hn;omega
theorem s40(h8:K<=8)(h:a∈a40 K):∀ n,n∈a↔n < 8/\(c80 a).testBit n=true:=by
 have h1:=o71 h8 h;rw[z30 (Ê 8)] at h1;obtain⟨m,hm,rfl⟩:=Ë.mp h1;have hm:m < 256:=é.mp hm;intro n;rw[a61 m hm]
 conv=>lhs;rw[E72 m hm,Æ9,Ì6]
theorem o81(h8:K<=8)(h:a∈a40 K){n:Nat}(hn:8<=n):(c80 a).testBit n=false:=by
 have h1:=o71 h8 h;rw[z30 (Ê 8)] at h1;obtain⟨m,hm,rfl⟩:=Ë.mp h1;have hm:m < 256:=é.mp hm;rw[a61 m hm];exact Nat.testBit_lt_two_pow (Ý hm (É4 (n:=2) (i:=8) (-0) hn))
theorem J61(h8:K<=8)(ha:a∈a40 K)(hb:b∈a40 K):c80 a &&& c80 b=0↔∀ n∈a,n ∉ b:=by
 constructor
 ·intro h n h1 h2;obtain⟨_,t1⟩:=(s40 h8 ha n).mp h1;obtain⟨_,t2⟩:=(s40 h8 hb n).mp h2;have:(c80 a &&& c80 b).testBit n=true:=by rw[Ô2,t1,t2];rfl
  rw[h,Nat.zero_testBit] at this;cases this
 ·intro h;apply Nat.eq_of_testBit_eq;intro n;rw[Nat.zero_testBit,Ô2];by_cases h3:n < 8
  ·cases t1:(c80 a).testBit n with
   |false=>rfl
   |true =>
    have h4:=h n ((s40 h8 ha n).mpr ⟨h3,t1⟩);cases t2:(c80 b).testBit n with
    |false=>rfl|true=>exact absurd ((s40 h8 hb n).mpr ⟨h3,t2⟩) h4
  ·rw[o81 h8 ha ∅];rfl
theorem o52(h8:K<=8)(ha:a∈a40 K)(hb:b∈a40 K):c80 a &&& c80 b=c80 b↔∀ n∈b,n∈a:=by
 constructor
 ·intro h n h1;obtain⟨h3,t1⟩:=(s40 h8 hb n).mp h1;rw[← h,Ô2,À] at t1;exact(s40 h8 ha n).mpr ⟨h3,t1.1⟩
 ·intro h;apply Nat.eq_of_testBit_eq;intro n;rw[Ô2];cases t2:(c80 b).testBit n with
  |false=>exact Ë4 _
  |true =>
   have h3:n < 8:=by
    rcases Nat.lt_or_ge n 8 with q | q
    ·exact q
    ·rw[o81 h8 hb q] at t2;cases t2
   obtain⟨_,t1⟩:=(s40 h8 ha n).mp (h n ((s40 h8 hb n).mpr ⟨h3,t2⟩));rw[t1];rfl
end
abbrev J70(a b:Nat):Int:=Ê5 (a:Int) (b:Int)
theorem o91(a b:Nat):J70 a b=((a &&& b:Nat):Int):=by
 unfold J70 Ê5;rw[decide_eq_true (show(0:Int)<=a by omega),decide_eq_true (show(0:Int)<=b by omega)]
 rfl
theorem a62{n:Nat}(h:n<=1000):C00 .shl (.int 1) (a60 n)=some (.d (a60 (2 ^ n))):=by
 show(if (0:Int)<=(n:Int)/\(n:Int)<=1000/\(1:Int).natAbs < 2 ^ 64 then some (S.d (.int (1 * 2 ^ (n:Int).toNat))) else none)=_;rw[if_pos ⟨by omega,by omega,by decide⟩,Á3,Ï9]
 show some (S.d (.int ((2:Int) ^ n)))=some (S.d (.int ((2 ^ n:Nat):Int)));rw[Ð1];rfl
theorem p01:∀ l:List Nat,s01 (l.map a60)=some ((l.sum:Nat):Int)
 |[]=>rfl
 |n::r=>by
  show(s01 (r.map a60)).map ((n:Int) + ·)=_;rw[p01 r,List.sum_cons];show some ((n:Int) + ((r.sum:Nat):Int))=_;rw[Int.natCast_add]
theorem B80(k:Nat){K:Nat}{l:List Nat}(h8:K<=8)(hl:l∈a40 K)(z:Z):a70 T (k + 3) y40 [.d (b50 l)] z=some (.ok (.d (a60 (c80 l))) z):=by
 have ln:=m00 hl;refine W.ok (f40 (ps:=1) (ns:=1) (b:=I50) rfl rfl (-0) ?_)
 refine ip (by rw[Å];exact h40 ∅) (I00 (λx=>a60 (2 ^ n72 x)) (λx hx=>?_) ?_)
 ·obtain⟨n,hn,rfl⟩:=Ë.mp hx;refine(a00 (a62 (n:=n) (by have:=b60 hl n hn;omega)) ?_ :)
  exact⟨rfl,rfl⟩
 ·have e:(l.map a60).map (λx=>a60 (2 ^ n72 x))=(l.map λn=>2 ^ n).map a60:=by rw[Ü,Ü];rfl
  rw[e];refine(a00 (o:=((d31 (.lst ((l.map λn=>2 ^ n).map a60))).bind s01).map λi=>S.d (.int i)) (a:=.d (a60 (c80 l))) (by show(s01 ((l.map λn=>2 ^ n).map a60)).map _=_;rw[p01];rfl) ?_ :)
  exact sd rfl
def mkD(p:P2):D:=.tup [a60 (c80 p.1),a60 (c80 p.2)]
section
variable {m:Int}{ps cs:List (Int × Int)}{pl:List Nat}{P:List P2}{p:P2}
theorem J80(k:Nat){K:Nat}(h8:K<=8)(h1:p.1∈a40 K)(h2:p.2∈a40 K)(z:Z):a70 T (k + 4) A70 [.d (pairD p)] z=some (.ok (.d (mkD p)) z) :=
 W.ok (f40 (k:=k + 1) (ps:=1) (ns:=1) (b:=B20) rfl rfl (-0) (Wo (B80 k h8 h1 z) (Wo (B80 k h8 h2 z) (sd rfl))))
theorem a71(k:Nat)(g:c30 m ps){l:List Nat}(hl:l∈a40 ps.length)(z:Z):a70 T (k + 6) Q80 [.d (D10 m ps),.d (b50 l)] z=some (.ok (.d (.bl true)) z):=by
 have ln:=m00 hl;have h8:=g.len;refine W.ok (f40 (ps:=2) (ns:=2) (b:=R30) rfl rfl (-0) (Wo (D20 k ((ps.map pr).length:Nat) (x:=b50 l) (decide_eq_true (by rw[Å];omega)) z) (sd ?_)))
 show S.d (.bl ((l.map a60).all (λx=>d40 x ((ps.map pr).length:Nat))&&u51 (l.map a60)))=_;have hb:(l.map a60).all (λx=>d40 x ((ps.map pr).length:Nat))=true:=by
  rw[Á1];intro x hx;obtain⟨n,hn,rfl⟩:=Ë.mp hx;exact I31 (by rw[Å];exact b60 hl n hn)
 rw[hb,H41 (e50 hl)];rfl
theorem t71(k:Nat)(g:c30 m ps)(hp:g90 m pl)(h1:p.1∈a40 ps.length)(h2:p.2∈a40 ps.length)(hd:∀ n∈p.1,n ∉ p.2)(hg:b40 ps m.toNat pl p.1=true)(z:Z):a70 T (k + 7) Y50 [.d (D10 m ps),.d (.tup (pl.map a60)),.d (pairD p)] z=some (.ok (.d (.bl true)) z):=by
 have h8:=g.len;refine W.ok (f40 (k:=k + 4) (ps:=3) (ns:=5) (b:=I60) rfl rfl (-0) ?_)
 refine Wo (a71 k g h1 z) (Wo (a71 k g h2 z) (Wo (J80 (k + 2) h8 h1 h2 z) ?_));refine it (b:=J70 (c80 p.1) (c80 p.2) == 0) (by rw[o91,(J61 h8 h1 h2).mpr hd];rfl) ?_
 exact Wo (b90 (k + 2) g hp (Row.t p.1) (b60 h1) z) (sb hg)
end
theorem T40(k:Nat){K:Nat}{p q:P2}(h8:K<=8)(hp:p.1∈a40 K/\p.2∈a40 K)(hq:q.1∈a40 K/\q.2∈a40 K)(h:Ap p q)(z:Z):a70 T (k + 3) C50 [.d (mkD p),.d (mkD q)] z=some (.ok (.d (.bl true)) z):=by
 have pos:∀ {a b:List Nat},a∈a40 K->b∈a40 K->(∃ n∈a,n∈b)->decide ((0:Int) < J70 (c80 a) (c80 b))=true:=λ{a b} ha hb ⟨n,n1,n2⟩=>by
  rw[decide_eq_true_eq,o91];have:c80 a &&& c80 b≠0:=λe=>(J61 h8 ha hb).mp e n n1 n2;omega
 refine W.ok (f40 (ps:=2) (ns:=2) (b:=r70) rfl rfl (-0) ?_)
 refine ib (b:=decide ((0:Int) < J70 (c80 p.1) (c80 q.2))) (λhb=>sb rfl) λhb=>?_;refine sb (b:=decide ((0:Int) < J70 (c80 q.1) (c80 p.2))) ?_;rcases h with h | h
 ·rw[pos hp.1 hq.2 h] at hb;cases hb
 ·exact pos hq.1 hp.2 h
def d70(f:Nat->Int)(ns:List Nat):Int:=(ns.map f).foldr (· * ·) 1
theorem o20(f:Nat->Int):∀ a b:List Nat,d70 f (a++b)=d70 f a * d70 f b
 |[],b=>(Ï9 _).symm
 |x::r,b=>by
  show f x * d70 f (r++b)=f x * d70 f r * d70 f b;rw[o20 f r b,Ì5]
theorem M90{f:Nat->Int}{a b:List Nat}(h:a.Perm b):d70 f a=d70 f b:=by
 induction h with
 |nil=>rfl|cons x _ ih=>show f x * d70 f _=f x * d70 f _;rw[ih]|swap x y l=>show f y * (f x * d70 f l)=f x * (f y * d70 f l);rw[← Ì5,← Ì5,Â3 (f y)]|trans _ _ i1 i2=>exact i1.trans i2
theorem w70{f h:Nat->Int}{a:List Nat}(e:∀ x∈a,f x=h x):d70 f a=d70 h a:=by
 unfold d70;rw[Á9 e]
theorem J71(c:Nat->Int × Int)(p:P2):∀ j,pwF c p j=d70 (K91 c p) (Ø j)
 |0=>rfl
 |j + 1=>by
  rw[range_succ,o20,← J71 c p j];show pwF c p j * K91 c p j=pwF c p j * (K91 c p j * 1);rw[mul_one]
section
variable {K:Nat}{p:P2}
theorem J90(h1:p.1∈a40 K)(h2:p.2∈a40 K)(hd:∀ n∈p.1,n ∉ p.2):(Ø K).Perm (p.1++(p.2++frees K p.1 p.2)):=by
 have n1:p.1.Nodup:=(e50 h1).imp λh=>ß h;have n2:p.2.Nodup:=(e50 h2).imp λh=>ß h;refine(Å8 Ô4 ?_).mpr λn=>?_
 ·rw[Ø6];refine⟨n1,?_,λa ha b hb e=>?_⟩
  ·rw[Ø6];exact⟨n2,T11,λa ha b hb e=>by subst e;exact(s30.mp hb).2.2 ha⟩
  ·subst e;rcases ó.mp hb with q | q
   ·exact hd a ha q
   ·exact(s30.mp q).2.1 ha
 ·rw[Ì6,Ç7,Ç7,s30];constructor
  ·intro h;by_cases q1:n∈p.1
   ·exact .inl q1
   ·by_cases q2:n∈p.2
    ·exact .inr (.inl q2)
    ·exact .inr (.inr ⟨h,q1,q2⟩)
  ·rintro (q | q | q)
   ·exact b60 h1 n q
   ·exact b60 h2 n q
   ·exact q.1
abbrev lkF(c:Nat->Int × Int)(n:Nat):Int × Int:=((c n).2 - (c n).1,(c n).2)
theorem p11(c:Nat->Int × Int)(h1:p.1∈a40 K)(h2:p.2∈a40 K)(hd:∀ n∈p.1,n ∉ p.2):pwF c p K=d70 (λn=>(c n).1) p.1 * (d70 (λn=>(lkF c n).1) p.2 * d70 (λn=>(c n).2) (frees K p.1 p.2)):=by
 rw[J71,M90 (J90 h1 h2 hd),o20,o20];rw[w70 (f:=K91 c p) (a:=p.1) (h:=λn=>(c n).1) λn hn=>if_pos hn];rw[w70 (f:=K91 c p) (a:=p.2) (h:=λn=>(lkF c n).1) λn hn=>(if_neg λq=>hd n q hn).trans (if_pos hn)];rw[w70 (f:=K91 c p) (a:=frees K p.1 p.2) (h:=λn=>(c n).2) λn hn=>(if_neg (s30.mp hn).2.1).trans (if_neg (s30.mp hn).2.2)]
theorem J81(c:Nat->Int × Int)(h1:p.1∈a40 K)(h2:p.2∈a40 K)(hd:∀ n∈p.1,n ∉ p.2):d70 (λn=>(c n).2) (Ø K)=d70 (λn=>(c n).2) p.1 * (d70 (λn=>(c n).2) p.2 * d70 (λn=>(c n).2) (frees K p.1 p.2)):=by
 rw[M90 (J90 h1 h2 hd),o20,o20]
theorem J91(l:List Nat):∀ j,amt (λ_=>(1,2)) j l=1
 |0=>rfl
 |j + 1=>by
  rw[k00,J91 l j];split <;> rfl
theorem K00:∀ a:List Nat,d70 (λ_=>1) a=1
 |[]=>rfl|_::r=>by show 1 * d70 _ r=1;rw[K00 r];rfl
theorem a81:∀ a:List Nat,d70 (λ_=>2) a=2 ^ a.length
 |[]=>rfl
 |_::r=>by
  show 2 * d70 _ r=2 ^ (r.length + 1);rw[a81 r,Int.pow_succ,Â3]
theorem a72(h1:p.1∈a40 K)(h2:p.2∈a40 K)(hd:∀ n∈p.1,n ∉ p.2):pwF (λ_=>(1,2)) p K=2 ^ (K - p.1.length - p.2.length)/\p.1.length + p.2.length<=K:=by
 have e:=(J90 h1 h2 hd).length_eq;rw[ê,ö,ö] at e;refine⟨?_,by omega⟩
 rw[p11 _ h1 h2 hd,show(λn=>(lkF (λ_=>((1:Int),(2:Int))) n).1)=λ_:Nat=>(1:Int) from rfl,K00,K00,a81,Ï9,Ï9,show K - p.1.length - p.2.length=(frees K p.1 p.2).length by omega]
end
def t81(l:List (Int × Int)):Int:=(l.map (·.1)).foldr (· * ·) 1
theorem U51(a b:List (Int × Int)):t81 (a++b)=t81 a * t81 b:=by
 induction a with
 |nil=>exact(Ï9 _).symm|cons x r ih=>show x.1 * t81 (r++b)=x.1 * t81 r * t81 b;rw[ih,Ì5]
theorem K01(a b:List (Int × Int)):c60 (a++b)=c60 a * c60 b:=by
 induction a with
 |nil=>exact(Ï9 _).symm|cons x r ih=>show x.2 * c60 (r++b)=x.2 * c60 r * c60 b;rw[ih,Ì5]
theorem p21(f:Nat->Int × Int)(a:List Nat):t81 (a.map f)=d70 (λn=>(f n).1) a:=by
 unfold t81 d70;rw[Ü];rfl
theorem a91(f:Nat->Int × Int)(a:List Nat):c60 (a.map f)=d70 (λn=>(f n).2) a:=by
 unfold c60 d70;rw[Ü];rfl
theorem Rt.bd{v:Int × Int}{t b:Int}{n:Nat}(h:Rt v t b)(hb:0 < b)(h0:0<=t)(ht:t<=b)(hn:b<=2 ^ n):Bd n v :=
 Fr.bd (t:=t) (b:=b) ⟨h.pos hb h0,h.b0,h.one,by rw[h.eq,Â3]⟩ hb ht hn
section
variable {m:Int}{ps cs:List (Int × Int)}{pl:List Nat}{P:List P2}{p:P2}
abbrev q42(cs:List (Int × Int))(p:P2):List (Int × Int):=p.1.map (cf cs)++p.2.map (lkF (cf cs))
theorem o62(hc:cs.length=ps.length)(ha:∀ c∈cs,IsC c)(hb:0 < c60 (q42 cs p))(h1:p.1∈a40 ps.length)(h2:p.2∈a40 ps.length)(hd:∀ n∈p.1,n ∉ p.2):u10 (t81 (q42 cs p)) (c60 (q42 cs p))=u10 (pwF (cf cs) p ps.length) (c60 cs):=by
 obtain⟨b0,_⟩:=B60 ha;refine Rt.eqv (Rt.conv (Rt.low hb) hb ?_) (Rt.low b0) b0;have e:c60 cs=d70 (λn=>(cf cs n).2) (Ø ps.length):=by rw[← hc,← I01];rfl
 rw[e,p11 (cf cs) h1 h2 hd,J81 (cf cs) h1 h2 hd,U51,K01,p21,p21,a91,a91];generalize d70 (λn=>(cf cs n).1) p.1=A;generalize d70 (λn=>(lkF (cf cs) n).1) p.2=B;generalize d70 (λn=>(cf cs n).2) (frees ps.length p.1 p.2)=C;generalize d70 (λn=>(cf cs n).2) p.1=D1;show A * B * (D1 * (d70 (λn=>(cf cs n).2) p.2 * C))=A * (B * C) * (D1 * d70 (λn=>(cf cs n).2) p.2);generalize d70 (λn=>(cf cs n).2) p.2=D2
 grind
theorem a82(ha:∀ c∈cs,IsC c):∀ {j:Nat},j<=cs.length->0<=pwF (cf cs) p j
 |0,_=>by show(0:Int)<=1;decide
 |j + 1,h=>by
  have i:=t31 ha (n:=j) ∅
  obtain⟨c1,c2,c3,c4,_⟩:=i;refine Ì4 (a82 ha ∅) ?_
  unfold K91;split
  ·exact c3
  ·split <;> omega
theorem F40(f:P2->Int):∀ a b:List P2,w50 (a++b) f=w50 a f + w50 b f
 |[],b=>(Int.zero_add _).symm
 |x::r,b=>by
  show f x + w50 (r++b) f=f x + w50 r f + w50 b f;rw[F40 f r b,Int.add_assoc]
theorem p31{f:P2->Int}{a:List P2}(h:∀ p∈a,0<=f p):0<=w50 a f:=by
 induction a with
 |nil=>exact Int.le_refl 0
 |cons x r ih =>
  show 0<=f x + w50 r f;have:=h x Ç;have:=ih λp hp=>h p (É _ hp);omega
theorem K10(g:c30 m ps)(hp:g90 m pl)(o:Once ps.length (b40 ps m.toNat pl) P)(c:Nat->Int × Int):i70 (a40 ps.length) (λl=>if b40 ps m.toNat pl l then amt c ps.length l else 0)=w50 P λp=>pwF c p ps.length:=by
 rw[T91 o (S20 g hp)];unfold w50;rw[Á9 λp hp=>J11 (o.dis p hp) (b60 (o.lot p hp).1) (b60 (o.lot p hp).2)]
theorem p41(g:c30 m ps)(hp:g90 m pl)(hc:cs.length=ps.length)(ha:∀ c∈cs,IsC c):0<=i70 (a40 ps.length) (λl=>if b40 ps m.toNat pl l then amt (cf cs) ps.length l else 0)/\i70 (a40 ps.length) (λl=>if b40 ps m.toNat pl l then amt (cf cs) ps.length l else 0)<=c60 cs:=by
 have hg:=n21 g hp;have h1:=R90 (c:=cf cs) hg ps.length [] (Ê _) (λ_ h=>nomatch h);simp only[Ã0] at h1;have hd:=Z80 ps.length;rw[h1,S91 hg hd [] (λn hn=>é.mp (hd.mem_iff.mp hn)) (λ_ h=>nomatch h),← I01,hc];exact I11 _ _ λn hn=>t31 ha (by rw[hc];exact é.mp hn)
theorem t91(g:c30 m ps)(hp:g90 m pl)(o:Once ps.length (b40 ps m.toNat pl) P):((e90 m ps pl).length:Int)=w50 P λp=>2 ^ (ps.length - p.1.length - p.2.length):=by
 have e:=K10 g hp o λ_=>(1,2);rw[len_one,J10,a01 (l10 g.len)];rw[t30 (g:=λl=>if b40 ps m.toNat pl l then amt (λ_=>(1,2)) ps.length l else 0) λl _=>by rw[J91],e]
 unfold w50;rw[Á9 λp hp=>(a72 (o.lot p hp).1 (o.lot p hp).2 (o.dis p hp)).1]
end
theorem Ap.sym{p q:P2}(h:Ap p q):Ap q p:=h.elim .inr .inl
theorem U61(k:Nat){K:Nat}{P:List P2}(h8:K<=8)(hl:P.length<=1000)(hp:∀ p∈P,p.1∈a40 K/\p.2∈a40 K)(ap:P.Pairwise Ap)(z:Z):a70 T (k + 4) r00 [.d (.lst (P.map mkD))] z=some (.ok (.d (.bl true)) z):=by
 have bm:∀ l:List P2,h20 (l.map mkD)=true:=λl=>by
  induction l with
  |nil=>rfl|cons _ r ih=>exact ih
 refine W.ok (f40 (k:=k + 1) (ps:=1) (ns:=3) (b:=k90) rfl rfl (-0) ?_)
 refine H90 (λxs ρ z1=>z1=z/\∃ (dn rest:List P2) (o1 o2:Option S),dn++rest=P/\xs=E00 (rest.map mkD) dn.length/\ρ=[some (.d (.lst (P.map mkD))),o1,o2]) _ ⟨rfl,[],P,none,none,rfl,rfl,(itE (by show(h20 (P.map mkD)&&true)=true;rw[bm];rfl)).trans rfl⟩ ?_ ?_
 ·rintro x r ρ z1 ⟨rfl,dn,rest,o1,o2,hd,e,rfl⟩;cases rest with
  |nil=>cases e
  |cons q rest =>
   cases e;have hq:q∈P:=by rw[← hd];exact Ú _ Ç
   have cut:cutD (P.map mkD) none (some (dn.length:Int))=dn.map mkD:=by
    rw[m51 _ ∅,Á3,← hd,Â1,List.take_append_of_le_length (by rw[Å];exact Ê _),È7 (by rw[Å];exact Ê _)]
   have hdl:dn.length<=1000:=by have:=congrArg Ú6 hd;rw[ö] at this;omega
   refine ip (c:=(cutD (P.map mkD) none (some (dn.length:Int))).length<=most) (by rw[cut,Å];exact h40 hdl) (I00 (λ_=>.bl true) (λy hy=>?_) ?_)
   ·rw[cut] at hy;obtain⟨p,hm,rfl⟩:=Ë.mp hy;have hP:p∈P:=by rw[← hd];exact Á4 _ hm
    have a1:Ap p q:=by
     rw[← hd,Ê4] at ap;exact ap.2.2 p hm q Ç
    exact Wo (T40 k h8 (hp q hq) (hp p hP) a1.sym z1) ⟨rfl,rfl⟩
   ·refine(a00 (u80 (cutD (P.map mkD) none (some (dn.length:Int))) λ_=>true) ?_ :);refine ie (b:=!(cutD (P.map mkD) none (some (dn.length:Int))).all λ_=>true) (by rw[ä.mpr λ_ _=>rfl];rfl) ?_
    exact⟨rfl,dn++[q],rest,_,_,by rw[Ä1];exact hd,by rw[ö];rfl,rfl⟩
 ·rintro ρ z1 ⟨rfl,dn,rest,o1,o2,hd,e,rfl⟩;cases rest with
  |cons _ _=>cases e
  |nil=>exact sd rfl
def stB(M:Nat):D->Bool
 |.tup [.int a,.int b]=>(Ê5 (M:Int) a == a)&&(Ê5 (M:Int) b == 0)|_=>false
theorem R22{K:Nat}{p:P2}{l:List Nat}(h8:K<=8)(hl:l∈a40 K)(h1:p.1∈a40 K)(h2:p.2∈a40 K)(h:sfB p l=true):stB (c80 l) (mkD p)=true:=by
 obtain⟨s1,s2⟩:=D40.mp h;show((J70 (c80 l) (c80 p.1) == ((c80 p.1:Nat):Int))&&(J70 (c80 l) (c80 p.2) == 0))=true;rw[o91,o91,(o52 h8 hl h1).mpr s1,(J61 h8 hl h2).mpr λn hn q=>s2 n q hn,beq_self_eq_true];rfl
theorem U71(k:Nat){K:Nat}{P:List P2}{l:List Nat}(h8:K<=8)(hn:P.length<=1000)(hp:∀ p∈P,p.1∈a40 K/\p.2∈a40 K)(hl:l∈a40 K)(h:∃ p∈P,sfB p l=true)(z:Z):a70 T (k + 3) u40 [.d (a60 (c80 l)),.d (.lst (P.map mkD))] z=some (.ok (.d (.bl true)) z):=by
 refine W.ok (f40 (ps:=2) (ns:=2) (b:=m60) rfl rfl (-0) ?_)
 refine ip (by rw[Å];exact h40 hn) (I00 (λx=>.bl (stB (c80 l) x)) (λx hx=>?_) ?_)
 ·obtain⟨p,_,rfl⟩:=Ë.mp hx;have e:stB (c80 l) (mkD p)=((J70 (c80 l) (c80 p.1) == ((c80 p.1:Nat):Int))&&(J70 (c80 l) (c80 p.2) == 0)):=rfl;refine ib (b:=J70 (c80 l) (c80 p.1) == ((c80 p.1:Nat):Int)) (λhb=>⟨?_,rfl⟩) λhb=>⟨?_,rfl⟩
  ·rw[e,hb,Ä0];rfl
  ·rw[e,hb,Å5]
 ·refine(a00 (Z91 (P.map mkD) (stB (c80 l))) ?_ :);refine sb (b:=(P.map mkD).any (stB (c80 l))) ?_;obtain⟨p,hm,hs⟩:=h;exact List.any_eq_true.mpr ⟨mkD p,Ë.mpr ⟨p,hm,rfl⟩,R22 h8 hl (hp p hm).1 (hp p hm).2 hs⟩
theorem p51:∀ {a b:List Nat},Bf a b->TS.c81 a b=true
 |x::r,y::q,h=>by
  show(if beq x y=true then TS.c81 r q else Õ0 x y)=true;rcases h with h | ⟨e,h⟩
  ·rw[if_neg (by rw[beq_eq];omega)]
   exact Nat.ble_eq.mpr h
  ·rw[if_pos (by rw[beq_eq];exact e)]
   exact p51 h
 |[],_,h=>by cases h
 |_::_,[],h=>by cases h
theorem F22{a b:List Nat}(h:Bf a b):a≠b:=λe=>by
 have:=p51 h;rw[e,← B70,MySort.c20] at this;cases this
theorem T50(p:P2):okD (pairD p)=true:=E92 (λ_=>p.2) p.1
theorem p61{p q:P2}(h:Bf p.1 q.1):ltD (pairD p) (pairD q)=some true:=by
 show(if eqD (b50 p.1) (b50 q.1)=true then _ else u41 (p.1.map a60) (q.1.map a60))=_;rw[show eqD (b50 p.1) (b50 q.1)=false from(t40 p.1 q.1).trans (decide_eq_false (F22 h)),if_neg Í];exact(H10 p.1 q.1).trans (by rw[p51 h])
theorem o72{p q:P2}(h:Bf p.1 q.1):E40 .lt (pairD p) (pairD q)=some true:=by
 show(if okD (pairD p)&&okD (pairD q) then ltD (pairD p) (pairD q) else none)=_;rw[T50,T50];exact p61 h
theorem K11:∀ {P:List P2}{x:D},P.Pairwise (λp q=>Bf p.1 q.1)->x∈A60 (P.map pairD) ((P.map pairD).drop 1)->∃ p q,x=.tup [pairD p,pairD q]/\Bf p.1 q.1
 |[],_,_,h=>by cases h
 |[p],_,_,h=>by cases h
 |p::q::r,x,hu,h=>by
  have h:x∈D.tup [pairD p,pairD q]::A60 ((q::r).map pairD) (((q::r).map pairD).drop 1):=h;obtain⟨h1,h2⟩:=À9.mp hu;rcases à.mp h with rfl | h
  ·exact⟨p,q,rfl,h1 q Ç⟩
  ·exact K11 h2 h
theorem K21(k:Nat){P:List P2}(hn:P.length<=1000)(hu:P.Pairwise λp q=>Bf p.1 q.1)(z:Z):a70 T (k + 3) Q70 [.d (.tup (P.map pairD))] z=some (.ok (.d (.bl true)) z):=by
 have e1:cutD (P.map pairD) (some 1) none=(P.map pairD).drop 1:=t20 _ 1;refine W.ok (f40 (ps:=1) (ns:=1) (b:=R20) rfl rfl (-0) (ip (c:=(A60 (P.map pairD) (cutD (P.map pairD) (some 1) none)).length<=most) (Ù (E90 _ _) (h40 (by rw[Å];exact hn))) (I00 (λ_=>.bl true) (λx hx=>?_) (a00 (u80 _ λ_=>true) ?_ :))))
 ·rw[e1] at hx;obtain⟨p,q,rfl,h⟩:=K11 hu hx;refine(a00 (o72 h) ?_ :);exact⟨rfl,rfl⟩
 ·exact sb (b:=List.all _ λ_=>true) (ä.mpr λ_ _=>rfl)
section
variable {m:Int}{ps cs:List (Int × Int)}{pl:List Nat}{P:List P2}{p:P2}
abbrev a92(P:List P2):D:=.tup (P.map pairD)
theorem B90(k:Nat)(g:c30 m ps)(hp:g90 m pl)(o:Once ps.length (b40 ps m.toNat pl) P)(hn:P.length<=1000)(z:Z):a70 T (k + 10) g70 [.d (D10 m ps),.d (.tup (pl.map a60)),.d (a92 P)] z=some (.ok (.d (.bl true)) z):=by
 have h8:=g.len;have h6:=hp.len g.m6;refine W.ok (f40 (k:=k + 7) (ps:=3) (ns:=4) (b:=l00) rfl rfl (-0) (Wo (i60 (k + 1) z g.web) (Wo (e40 (k + 3) (t:=.tup (ps.map pr)) z hp.pls (decide_eq_true (by rw[Å];omega))) ?_)))
 refine ip (by rw[Å];exact h40 hn) (I00 (λ_=>.bl true) (λx hx=>?_) ?_)
 ·obtain⟨p,hm,rfl⟩:=Ë.mp hx;exact Wo (t71 (k + 2) g hp (o.lot p hm).1 (o.lot p hm).2 (o.dis p hm) (o.good p hm) z) ⟨rfl,rfl⟩
 refine(a00 (u80 (P.map pairD) λ_=>true) ?_ :);refine ie (b:=!(P.map pairD).all λ_=>true) (by rw[ä.mpr λ_ _=>rfl];rfl) ?_
 have bm:h20 (P.map mkD)=true:=by
  clear o hn
  induction P with
  |nil=>rfl|cons _ r ih=>exact ih
 refine(l52 (.fr (P.map mkD)) [some (.d (D10 m ps)),some (.d (.tup (pl.map a60))),some (.d (a92 P)),some (.fr (P.map mkD))] ?_ ?_ ?_ :)
 ·refine ip (by rw[Å];exact h40 hn) (I00 (λx=>match x with | .tup [.tup a,.tup b]=>mkD (l60 (.tup a),l60 (.tup b)) | _=>.non) (λx hx=>?_) ?_)
  ·obtain⟨p,hm,rfl⟩:=Ë.mp hx;refine Wo (J80 (k + 5) h8 (o.lot p hm).1 (o.lot p hm).2 z) ⟨?_,rfl⟩;show mkD p=mkD (l60 (b50 p.1),l60 (b50 p.2));rw[e20,e20]
  ·refine⟨?_,rfl⟩;rw[Ü];refine congrArg S.fr (Á9 λp _=>?_);show mkD (l60 (b50 p.1),l60 (b50 p.2))=mkD p;rw[e20,e20]
 ·rw[F41 (show K20 (.fr (P.map mkD))=true from bm)];rfl
 refine Wo (K21 (k + 6) hn o.up z) (Wo (U61 (k + 5) h8 hn o.lot o.apart z) (Wo (m10 k g hp z) ?_));refine ip (by rw[Å];exact h40 (Ù (o31 g) (-0))) (I00 (λ_=>.bl true) (λx hx=>?_) ?_)
 ·obtain⟨l,hl,rfl⟩:=Ë.mp hx;obtain⟨l1,l2⟩:=(e30 g).mp hl;exact Wo (B80 (k + 6) h8 l1 z) (Wo (U71 (k + 6) h8 hn o.lot l1 (o.cov l l1 l2) z) ⟨rfl,rfl⟩)
 ·refine(a00 (u80 ((e90 m ps pl).map b50) λ_=>true) ?_ :);exact sb (b:=((e90 m ps pl).map b50).all λ_=>true) (ä.mpr λ_ _=>rfl)
end
structure Fc(c:Int × Int):Prop where
 bd:Bd 10 c
 one:gcd c.1 c.2=1
theorem T60:∀ {l:List (Int × Int)},(∀ c∈l,Fc c)->0 < c60 l/\c60 l<=2 ^ (10 * l.length)
 |[],_=>by show(0:Int) < 1/\(1:Int)<=1;omega
 |c::r,h=>by
  obtain⟨h1,h2⟩:=T60 λd hd=>h d (É _ hd);have hc:=(h c Ç).bd;show 0 < c.2 * c60 r/\c.2 * c60 r<=_;refine⟨Ð2 hc.b0 h1,?_⟩;rw[Õ,mul_add,pow_add,Â3];exact Î7 h2 hc.bb (ü hc.b0) (Æ4 (ü h1) h2)
theorem u01(k:Nat){l:List (Int × Int)}(hl:l.length<=20)(h:∀ c∈l,Fc c)(z:Z):a70 T (k + 8) Y40 [.d (.lst (l.map pr))] z=some (.ok (.d (pr (u10 (t81 l) (c60 l)))) z):=by
 obtain⟨b0,b1⟩:=T60 h;refine W.ok (f40 (k:=k + 5) (ps:=1) (ns:=3) (b:=I40) rfl rfl (-0) ?_)
 refine H90 (λxs ρ z2=>z2=z/\∃ (rest:List (Int × Int)) (v:Int × Int) (t b:Int) (o:Option S),xs=rest.map pr/\(∀ c∈rest,Fc c)/\Rt v t b/\0<=t/\t<=b/\0 < b/\t * t81 rest=t81 l/\b * c60 rest=c60 l/\ρ=[some (.d (.lst (l.map pr))),some (.d (pr v)),o]) _ ⟨rfl,l,(1,1),1,1,none,rfl,h,⟨by decide,by decide,rfl⟩,by decide,by decide,by decide,Ï9 _,Ï9 _,(itE (by show(h20 (l.map pr)&&true)=true;rw[z00];rfl)).trans rfl⟩ ?_ ?_
 ·rintro x r ρ z2 ⟨rfl,rest,v,t,b,o,e,hr,rv,t0,tb,bp,et,eb,rfl⟩;cases rest with
  |nil=>cases e
  |cons c rest =>
   cases e;have hc:=hr c Ç;have hr':=λd hd=>hr d (É _ hd);obtain⟨q0,_⟩:=T60 hr;have bl:b<=2 ^ 200:=by
    have h1:b * 1<=b * c60 (c::rest):=Á6 q0 (ü bp);rw[eb,mul_one] at h1;exact Æ4 h1 (Æ4 b1 (by
     have:(2:Nat) ^ (10 * l.length)<=2 ^ 200:=É4 (-0) ∅
     exact_mod_cast this))
   refine Wo (S51 (k + 2) (rv.bd bp t0 tb bl) hc.bd (-0) z2) ?_
   have rc:Rt c c.1 c.2:=⟨hc.bd.b0,hc.one,rfl⟩;refine⟨rfl,rest,_,t * c.1,b * c.2,_,rfl,hr',rv.mul rc,Ì4 t0 hc.bd.t0,Î7 tb hc.bd.tb hc.bd.t0 (ü bp),Ð2 bp hc.bd.b0,?_,?_,rfl⟩
   ·rw[Ì5];exact et
   ·rw[Ì5];exact eb
 ·rintro ρ z2 ⟨rfl,rest,v,t,b,o,e,hr,rv,t0,tb,bp,et,eb,rfl⟩;cases rest with
  |cons _ _=>cases e
  |nil =>
   have et:t * 1=t81 l:=et;have eb:b * 1=c60 l:=eb;rw[mul_one] at et eb;subst et;rw[eb] at rv;rw[Rt.eqv rv (Rt.low b0) b0];exact sd rfl
section
variable {m:Int}{ps cs:List (Int × Int)}{pl:List Nat}{P:List P2}{p:P2}
theorem IsC.fc{c:Int × Int}(h:IsC c):Fc c/\Fc (c.2 - c.1,c.2):=by
 obtain⟨c1,c2,c3,c4,c5⟩:=h;refine⟨⟨⟨c3,c4,by omega,by omega⟩,c5⟩,⟨⟨by show 0<=c.2 - c.1;omega,by show c.2 - c.1<=c.2;omega,by show 0 < c.2;omega,by show c.2<=2 ^ 10;omega⟩,?_⟩⟩
 show gcd (c.2 - c.1) c.2=1;rw[gcd_comm,Int.gcd_self_sub_right,gcd_comm];exact c5
theorem F32(hc:cs.length=ps.length)(ha:∀ c∈cs,IsC c)(h1:p.1∈a40 ps.length)(h2:p.2∈a40 ps.length):∀ c∈q42 cs p,Fc c:=λc hm=>by
 rcases ó.mp hm with q | q
 ·obtain⟨n,hn,rfl⟩:=Ë.mp q;exact(t31 ha (by rw[hc];exact b60 h1 n hn)).fc.1
 ·obtain⟨n,hn,rfl⟩:=Ë.mp q;exact(t31 ha (by rw[hc];exact b60 h2 n hn)).fc.2
theorem T70(k:Nat)(h8:ps.length<=8)(hc:cs.length=ps.length)(ha:∀ c∈cs,IsC c)(h1:p.1∈a40 ps.length)(h2:p.2∈a40 ps.length)(hd:∀ n∈p.1,n ∉ p.2)(z:Z):a70 T (k + 9) C70 [.d (.tup (cs.map pr)),.d (pairD p)] z=some (.ok (.d (pr (u10 (pwF (cf cs) p ps.length) (c60 cs)))) z):=by
 have l1:=m00 h1;have l2:=m00 h2;have fc:=F32 hc ha h1 h2;refine W.ok (f40 (k:=k + 6) (ps:=2) (ns:=3) (b:=r90) rfl rfl (-0) ?_)
 refine(l52 (.fr ((p.1.map (cf cs)).map pr)) [some (.d (.tup (cs.map pr))),some (.d (pairD p)),some (.fr ((p.1.map (cf cs)).map pr))] ?_ ?_ ?_ :)
 ·refine ip (by rw[Å];exact h40 ∅) (I00 (λx=>pr (cf cs (n72 x))) (λx hx=>?_) ?_)
  ·obtain⟨n,hn,rfl⟩:=Ë.mp hx;refine(a00 (Z81 (cs:=cs) (n:=n) (by rw[hc];exact b60 h1 n hn)) ?_ :)
   exact⟨rfl,rfl⟩
  ·refine⟨?_,rfl⟩;rw[Ü,Ü];rfl
 ·rw[F41 (show K20 (.fr ((p.1.map (cf cs)).map pr))=true from z00 _)];rfl
 refine ip (by rw[Å];exact h40 ∅) (I00 (λx=>pr (lkF (cf cs) (n72 x))) (λx hx=>?_) ?_)
 ·obtain⟨n,hn,rfl⟩:=Ë.mp hx;refine(a00 (Z81 (cs:=cs) (n:=n) (by rw[hc];exact b60 h2 n hn)) ?_ :)
  exact Wo (m22 (k + 5) (cf cs n) z) ⟨rfl,rfl⟩
 ·have e:(p.2.map a60).map (λx=>pr (lkF (cf cs) (n72 x)))=(p.2.map (lkF (cf cs))).map pr:=by rw[Ü,Ü];rfl
  rw[e];refine(a00 (add_l (a:=(p.1.map (cf cs)).map pr) (b:=(p.2.map (lkF (cf cs))).map pr) (by rw[Å,Å,Å,Å];omega)) ?_ :)
  have e2:(p.1.map (cf cs)).map pr++(p.2.map (lkF (cf cs))).map pr=(q42 cs p).map pr:=Â1.symm;rw[e2];refine Wo (u01 k (l:=q42 cs p) (by rw[ö,Å,Å];omega) fc z) (sd ?_)
  rw[o62 hc ha (T60 fc).1 h1 h2 hd]
theorem p50(k:Nat)(g:c30 m ps)(hp:g90 m pl)(hc:cs.length=ps.length)(ha:∀ c∈cs,IsC c)(o:Once ps.length (b40 ps m.toNat pl) P)(hn:P.length<=1000)(z:Z):a70 T (k + 12) l70 [.d (D10 m ps),.d (.tup (cs.map pr)),.d (.tup (pl.map a60)),.d (a92 P)] z=some (.ok (.d (pr (D30 m ps cs pl))) z):=by
 have h8:=g.len;have h6:=hp.len g.m6;obtain⟨b0,b1⟩:=B60 ha;obtain⟨s0,s1⟩:=p41 g hp hc ha;rw[K10 g hp o] at s0 s1;have b80:c60 cs<=2 ^ 80:=Æ4 b1 (by
  have:(2:Nat) ^ (10 * cs.length)<=2 ^ 80:=É4 (-0) ∅
  exact_mod_cast this)
 have pos:∀ p∈P,0<=pwF (cf cs) p ps.length:=λp _=>a82 ha ∅
 have part:∀ dn rest:List P2,dn++rest=P->0<=w50 dn (λp=>pwF (cf cs) p ps.length)/\w50 dn (λp=>pwF (cf cs) p ps.length)<=c60 cs:=λdn rest e=>by
  have h1:=F40 (λp=>pwF (cf cs) p ps.length) dn rest;rw[e] at h1;have h2:=p31 (f:=λp=>pwF (cf cs) p ps.length) (a:=dn) λp hp=>pos p (by rw[← e];exact Á4 _ hp)
  have h3:=p31 (f:=λp=>pwF (cf cs) p ps.length) (a:=rest) λp hp=>pos p (by rw[← e];exact Ú _ hp)
  omega
 refine W.ok (f40 (k:=k + 9) (ps:=4) (ns:=6) (b:=s00) rfl rfl (-0) (Wo (p90 (k + 1) (m:=m) (ts:=ps.map pr) g.web z (Z41 (by rw[Å];exact hc) ha)) (Wo (e40 (k + 5) (t:=.tup (ps.map pr)) z hp.pls (decide_eq_true (by rw[Å];omega))) (Wo (B90 (k + 1) g hp o hn z) ?_))))
 have bm:h20 (P.map pairD)=true:=by
  clear o hn pos part s0 s1
  induction P with
  |nil=>rfl|cons p r ih=>show((h20 (p.1.map a60)&&(h20 (p.2.map a60)&&true))&&h20 (r.map pairD))=true;rw[i10,i10,ih];rfl
 refine H90 (λxs ρ z2=>z2=z/\∃ (dn rest:List P2) (v:Int × Int) (o5:Option S),dn++rest=P/\xs=rest.map pairD/\Rt v (w50 dn λp=>pwF (cf cs) p ps.length) (c60 cs)/\ρ=[some (.d (D10 m ps)),some (.d (.tup (cs.map pr))),some (.d (.tup (pl.map a60))),some (.d (a92 P)),some (.d (pr v)),o5]) _ ⟨rfl,[],P,(0,1),none,rfl,rfl,⟨by decide,by decide,by show 0 * c60 cs=0 * 1;rw[Int.zero_mul,Int.zero_mul]⟩,(itE (by show(h20 (P.map pairD)&&true)=true;rw[bm];rfl)).trans rfl⟩ ?_ ?_
 ·rintro x r ρ z2 ⟨rfl,dn,rest,v,o5,hd,e,rv,rfl⟩;cases rest with
  |nil=>cases e
  |cons p rest =>
   cases e;have hm:p∈P:=by rw[← hd];exact Ú _ Ç
   have hd':(dn++[p])++rest=P:=by rw[Ä1];exact hd
   obtain⟨a0,a1⟩:=part dn _ hd;obtain⟨c0,c1⟩:=part (dn++[p]) _ hd';have es:w50 (dn++[p]) (λp=>pwF (cf cs) p ps.length)=w50 dn (λp=>pwF (cf cs) p ps.length) + pwF (cf cs) p ps.length:=by
    rw[F40];show _ + (pwF (cf cs) p ps.length + 0)=_;rw[add_zero]
   have p0:=pos p hm;have rw':Rt (u10 (pwF (cf cs) p ps.length) (c60 cs)) (pwF (cf cs) p ps.length) (c60 cs):=Rt.low b0;refine Wo (T70 (k + 2) h8 hc ha (o.lot p hm).1 (o.lot p hm).2 (o.dis p hm) z2) (Wo (m12 (k + 6) (rv.bd b0 a0 a1 b80) (rw'.bd b0 p0 ∅ b80) (-0) z2) ?_)
   refine⟨rfl,dn++[p],rest,_,_,hd',rfl,(rv.add rw').conv (Ð2 b0 b0) ?_,rfl⟩;rw[es];generalize w50 dn (λp=>pwF (cf cs) p ps.length)=A;generalize pwF (cf cs) p ps.length=B;generalize c60 cs=C
   grind
 ·rintro ρ z2 ⟨rfl,dn,rest,v,o5,hd,e,rv,rfl⟩;cases rest with
  |cons _ _=>cases e
  |nil =>
   rw[Ã0] at hd;subst hd;rw[← K10 g hp o] at rv;rw[Rt.eqv rv (Rt.low b0) b0];exact sd rfl
end
def o82(l:List Nat):D->Bool
 |.int i=>!(decide (0<=i)&&decide (i.toNat∈l))|_=>true
inductive Pap where
 |yes | no | tie (n:Nat) (a b:Pap)
def Pap.d:Pap->D
 |.yes=>.tup [.str "yes"]|.no=>.tup [.str "no"]|.tie n a b=>.tup [.str "tie",a60 n,a.d,b.d]
theorem U81(K:Nat):rest K []=Ø K:=by
 unfold rest;exact List.filter_eq_self.mpr λ_ _=>rfl
theorem U91{ps:List (Int × Int)}:(Ã8 0 (ps.map pr).length).map a60=(rest ps.length []).map a60:=by rw[Å,U81,È0]
theorem K31:∀ {a b:List Nat} (c d:List Int),Bf a b->MySort.f10 (j50 a++c) (j50 b++d)=true
 |x::r,y::q,c,d,h=>by
  show(if (x:Int)=y then MySort.f10 (j50 r++c) (j50 q++d) else decide ((x:Int) < y))=true;rcases h with h | ⟨e,h⟩
  ·rw[if_neg ∅,decide_eq_true ∅]
  ·rw[if_pos (by rw[e])]
   exact K31 c d h
 |[],_,_,_,h=>by cases h
 |_::_,[],_,_,h=>by cases h
theorem z90{a b:List Int}(h:MySort.f10 a b=true):MySort.f10 b a=false:=by
 cases q:MySort.f10 b a with
 |false=>rfl
 |true =>
  have:=MySort.n10 _ _ _ h q;rw[MySort.c20] at this;cases this
theorem p71(p:P2):flt (pairD p)=j50 p.1++j50 p.2:=I81 (λ_=>p.2) p.1
theorem D50{p q:P2}(h:Bf p.1 q.1):MySort.f10 (flt (pairD p)) (flt (pairD q))=true:=by
 rw[p71,p71];exact K31 _ _ h
theorem V01{p q:P2}(h:Bf p.1 q.1):ltD (pairD q) (pairD p)=some false:=by
 show(if eqD (b50 q.1) (b50 p.1)=true then _ else u41 (q.1.map a60) (p.1.map a60))=_;rw[show eqD (b50 q.1) (b50 p.1)=false from(t40 q.1 p.1).trans (decide_eq_false (Â4 (F22 h))),if_neg Í];refine(H10 q.1 p.1).trans ?_;have:=p51 h;rw[← B70] at this;rw[← B70,z90 this]
theorem u11(p:P2):ltD (pairD p) (pairD p)=some false:=by
 have:=R12 (c:=λ_=>p.2) (a:=p.1) (b:=p.1) rfl;rw[MySort.c20] at this;exact this
theorem tri{R:P2->P2->Prop}:∀ {P:List P2},P.Pairwise R->∀ p∈P,∀ q∈P,p=q∨R p q∨R q p
 |[],_,p,hp,_,_=>by cases hp
 |x::r,h,p,hp,q,hq=>by
  obtain⟨h1,h2⟩:=À9.mp h;rcases à.mp hp with ep | mp <;> rcases à.mp hq with eq | mq
  ·exact .inl (ep.trans eq.symm)
  ·rw[ep];exact .inr (.inl (h1 q mq))
  ·rw[eq];exact .inr (.inr (h1 p mp))
  ·exact tri h2 p mp q mq
theorem b01:∀ {P:List P2},P.Pairwise (λp q=>Bf p.1 q.1)->upD (P.map pairD)=true
 |[],_=>rfl|[_],_=>rfl
 |p::q::r,h=>by
  obtain⟨h1,h2⟩:=À9.mp h;show(!MySort.f10 (flt (pairD q)) (flt (pairD p))&&upD ((q::r).map pairD))=true;rw[z90 (D50 (h1 q Ç)),b01 h2];rfl
theorem o92{P:List P2}(h:P.Pairwise λp q=>Bf p.1 q.1)(hl:P.length<=1000):bfD .sorted [.lst (P.map pairD)]=some (.fr (P.map pairD)):=by
 have t:=tri h;have ok:i30 (P.map pairD)=true:=by
  unfold i30;refine ä.mpr λx hx=>?_;obtain⟨p,hp,rfl⟩:=Ë.mp hx;rw[À,À];refine⟨rfl,T50 p,ä.mpr λy hy=>?_⟩;obtain⟨q,hq,rfl⟩:=Ë.mp hy;unfold k30;rw[À,À,Â9];refine⟨rfl,?_⟩;rcases t p hp q hq with rfl | k | k
  ·exact⟨by rw[u11,MySort.c20];rfl,.inl (E82 (λ_=>p.2) p.1)⟩
  ·refine⟨by rw[p61 k,D50 k];rfl,.inr ?_⟩
   rw[á,beq_eq_false_iff_ne];intro e;have:=D50 k;rw[e,MySort.c20] at this;cases this
  ·refine⟨by rw[V01 k,z90 (D50 k)];rfl,.inr ?_⟩
   rw[á,beq_eq_false_iff_ne];intro e;have:=D50 k;rw[e,MySort.c20] at this;cases this
 show(if (P.map pairD).length < 64/\i30 (P.map pairD)=true then some (S.fr (D90 (P.map pairD))) else(P31 (P.map pairD)).map S.fr)=_;by_cases c:(P.map pairD).length < 64/\i30 (P.map pairD)=true
 ·rw[if_pos c]
  congr 2
  refine j71 (.refl _) ?_ λx hx y hy e=>?_
  ·rw[Í7];exact h.imp λk=>z90 (D50 k)
  ·obtain⟨p,hp,rfl⟩:=Ë.mp hx;obtain⟨q,hq,rfl⟩:=Ë.mp hy;rcases t p hp q hq with rfl | k | k
   ·rfl
   ·have:=D50 k;rw[e,MySort.c20] at this;cases this
   ·have:=D50 k;rw[e,MySort.c20] at this;cases this
 ·rw[if_neg c];unfold P31 v82;rw[ok,b01 h,decide_eq_true (by rw[Å];exact hl)];rfl
theorem b11{l:List Nat}(h:l.Pairwise (· < ·))(h64:l.length < 64):bfD .sorted [.tup (l.map a60)]=some (.fr (l.map a60)):=by
 have ok:i30 (l.map a60)=true:=by
  refine ä.mpr λx hx=>?_;obtain⟨p,_,rfl⟩:=Ë.mp hx;show(true&&(true&&(l.map a60).all (k30 (a60 p))))=true;refine ä.mpr λy hy=>?_;obtain⟨q,_,rfl⟩:=Ë.mp hy;exact S81 p q
 show(if (l.map a60).length < 64/\i30 (l.map a60)=true then some (S.fr (D90 (l.map a60))) else _)=_;rw[if_pos ⟨by rw[Å];exact h64,ok⟩]
 congr 2
 refine j71 (.refl _) ?_ λx hx y hy e=>?_
 ·rw[Í7];refine h.imp λ{a b} hab=>?_;show MySort.f10 [(b:Int)] [(a:Int)]=false;rw[T52,decide_eq_false ∅]
 ·obtain⟨p,hp,rfl⟩:=Ë.mp hx;obtain⟨q,hq,rfl⟩:=Ë.mp hy;have e:[(p:Int)]=[(q:Int)]:=e;cases e;rfl
def V11(g:List Nat->Bool)(K:Nat):Nat->List Nat->List Nat->Pap
 |0,held,_=>if g held then .yes else .no|r + 1,held,lack=>if g held then .yes else if g (rest K lack) then .tie (K - (r + 1)) (V11 g K r (held++[K - (r + 1)]) lack) (V11 g K r held (lack++[K - (r + 1)])) else .no
theorem A00{g:List Nat->Bool}{K:Nat}:∀ (r:Nat) (held lack:List Nat),(endsF g K r held lack).length<=2 ^ r
 |0,held,lack=>by
  unfold endsF;split
  ·exact Ê _
  ·exact Æ6 _
 |r + 1,held,lack=>by
  unfold endsF;have:=Nat.one_le_two_pow (n:=r + 1);split
  ·exact this
  ·split
   ·rw[ö];have a:=A00 (g:=g) (K:=K) r (held++[K - (r + 1)]) lack;have b:=A00 (g:=g) (K:=K) r held (lack++[K - (r + 1)]);rw[pow_succ];omega
   ·exact Æ6 _
section
variable {m:Int}{ps:List (Int × Int)}{pl:List Nat}
theorem Dec.next{K r:Nat}{held lack:List Nat}(d:Dec K (r + 1) held lack):∃ t,(rest K lack).filter (λn=>!decide (n∈held))=(K - (r + 1))::t:=by
 have le:=d.le;have hm:∀ n,n∈(rest K lack).filter (λn=>!decide (n∈held))↔n < K/\n ∉ lack/\n ∉ held:=λn=>by
  rw[Æ9,t50,á,decide_eq_false_iff_not,and_assoc]
 have hs:((rest K lack).filter (λn=>!decide (n∈held))).Pairwise (· < ·):=À6 _ (À6 _ Ä8);have hj:=(hm (K - (r + 1))).mpr ⟨by omega,λq=>by have:=d.h2 _ q;omega,λq=>by have:=d.h1 _ q;omega⟩
 cases e:(rest K lack).filter (λn=>!decide (n∈held)) with
 |nil=>rw[e] at hj;cases hj
 |cons x t =>
  rw[e] at hj hs hm;obtain⟨x1,x2,x3⟩:=(hm x).mp Ç;have xj:K - (r + 1)<=x:=Ú5 λq=>((d.all x).mpr q).elim x3 x2;refine⟨t,?_⟩;rcases à.mp hj with q | q
  ·rw[q]
  ·have:=Î9 hs q;omega
theorem V21(g:c30 m ps)(hp:g90 m pl):∀ (r k:Nat) (held lack:List Nat) (z:Z),Dec ps.length r held lack->a70 T (k + r + 5) o70 [.d (D10 m ps),.d (.tup (pl.map a60)),.d (b50 held),.d (b50 (rest ps.length lack))] z=some (.ok (.d (V11 (b40 ps m.toNat pl) ps.length r held lack).d) z):=by
 intro r
 induction r with
 |zero =>
  intro k held lack z d;have hh:∀ n∈held,n < ps.length:=λn hn=>by have:=d.h1 n hn;omega
  have hr:∀ n∈rest ps.length lack,n < ps.length:=λn hn=>(t50.mp hn).1;have same:b40 ps m.toNat pl (rest ps.length lack)=b40 ps m.toNat pl held:=n21 g hp _ _ hr hh λn=>by
   rw[t50];constructor
   ·exact λq=>((d.all n).mpr ∅).elim id λz=>absurd z q.2
   ·exact λq=>⟨hh n q,d.dis n q⟩
  show a70 T (k + 5) _ _ z=_;unfold V11;cases h1:b40 ps m.toNat pl held with
  |true=>exact W.ok (f40 (k:=k + 2) (ps:=4) (ns:=7) (b:=f50) rfl rfl (-0) (Wo (b90 k g hp (Row.t held) hh z) (it (b:=b40 ps m.toNat pl held) h1 (sd rfl))))|false=>exact W.ok (f40 (k:=k + 2) (ps:=4) (ns:=7) (b:=f50) rfl rfl (-0) (Wo (b90 k g hp (Row.t held) hh z) (ie (b:=b40 ps m.toNat pl held) h1 (Wo (b90 k g hp (Row.t (rest ps.length lack)) hr z) (it (b:=!b40 ps m.toNat pl (rest ps.length lack)) (by rw[same,h1];rfl) (sd rfl))))))
 |succ r ih =>
  intro k held lack z d;have le:=d.le;have h8:=g.len;have hh:∀ n∈held,n < ps.length:=λn hn=>by have:=d.h1 n hn;omega
  have hr:∀ n∈rest ps.length lack,n < ps.length:=λn hn=>(t50.mp hn).1;show a70 T (k + r + 1 + 5) _ _ z=_;unfold V11;cases h1:b40 ps m.toNat pl held with
  |true=>exact W.ok (f40 (k:=k + r + 3) (ps:=4) (ns:=7) (b:=f50) rfl rfl (-0) (Wo (b90 (k + r + 1) g hp (Row.t held) hh z) (it (b:=b40 ps m.toNat pl held) h1 (sd rfl))))
  |false =>
   rw[if_neg Í];cases h2:b40 ps m.toNat pl (rest ps.length lack) with
   |false=>exact W.ok (f40 (k:=k + r + 3) (ps:=4) (ns:=7) (b:=f50) rfl rfl (-0) (Wo (b90 (k + r + 1) g hp (Row.t held) hh z) (ie (b:=b40 ps m.toNat pl held) h1 (Wo (b90 (k + r + 1) g hp (Row.t (rest ps.length lack)) hr z) (it (b:=!b40 ps m.toNat pl (rest ps.length lack)) (by rw[h2];rfl) (sd rfl))))))
   |true =>
    rw[if_pos rfl];have a3:=ih k (held++[ps.length - (r + 1)]) lack z d.hold;have b3:=ih k held (lack++[ps.length - (r + 1)]) z d.lak;have hln:held.length<=8:=by
     have:=z40 d.up1 hh;omega
    rw[show b50 (held++[ps.length - (r + 1)])=.tup (held.map a60++[a60 (ps.length - (r + 1))]) from by unfold b50;rw[Â1];rfl] at a3
    obtain⟨t,e⟩:=d.next;refine W.ok (f40 (k:=k + r + 3) (ps:=4) (ns:=7) (b:=f50) rfl rfl (-0) (Wo (b90 (k + r + 1) g hp (Row.t held) hh z) (ie (b:=b40 ps m.toNat pl held) h1 (Wo (b90 (k + r + 1) g hp (Row.t (rest ps.length lack)) hr z) (ie (b:=!b40 ps m.toNat pl (rest ps.length lack)) (by rw[h2];rfl) ?_)))))
    have hl:(rest ps.length lack).length<=8:=Ù (Ç2 _ _) (by rw[ê];exact h8)
    refine ip (by rw[Å];simp only[most];omega) (l42 (o82 held) (λx=>x) (λy hy=>?_) ?_)
    ·obtain⟨j,_,rfl⟩:=Ë.mp hy;refine(a00 (o:=(r91 (a60 j) (held.map a60)).map (!·)) (a:=o82 held (a60 j)) (by show(r91 (.int j) _).map _=_;rw[o22];rfl) ?_ :)
     exact⟨rfl,rfl,λ_=>⟨rfl,rfl⟩⟩
    ·have e2:(rest ps.length lack).filter (λn=>o82 held (a60 n))=(ps.length - (r + 1))::t:=by
      rw[← e];refine É6 λj _=>?_;show(!(decide (0<=(j:Int))&&decide ((j:Int).toNat∈held)))=_;rw[decide_eq_true ∅,Ä0,Á3]
     rw[map_id',m91,e2];refine(a00 (g21 (l:=((ps.length - (r + 1))::t).map a60) (j:=0) (x:=a60 (ps.length - (r + 1))) rfl) ?_ :);refine(a00 (H91 (a:=held.map a60) (b:=[a60 (ps.length - (r + 1))]) (by rw[Å];show _ + 1<=_;omega)) ?_ :)
     exact Wo a3 (Wo (a21 (k + r + 2) (n:=ps.length - (r + 1)) h8 z) (Wo b3 (sd rfl)))
theorem okY:À7 "yes"=true:=by decide +kernel
theorem okN:À7 "no"=true:=by decide +kernel
theorem okT:À7 "tie"=true:=by decide +kernel
theorem K41(k:Nat){w:PySem.Str}(hw:À7 w=true)(he:(w == "yes")=true){K r:Nat}{held lack:List Nat}(hK:K<=8)(d:Dec K r held lack)(z:Z):a70 T (k + 3) e70 [.d (.tup [.str w]),.d (b50 held),.d (b50 lack)] z=some (.ok (.fr [pairD (held,lack)]) z):=by
 have l1:held.length<=K:=z40 d.up1 λn hn=>by have:=d.h1 n hn;omega
 have l2:lack.length<=K:=z40 d.up2 λn hn=>by have:=d.h2 n hn;omega
 refine W.ok (f40 (ps:=3) (ns:=6) (b:=n70) rfl rfl (-0) ?_)
 refine(a00 (J21 (w:=w) (v:="yes") hw okY) ?_ :);refine it (b:=w == "yes") he ?_;refine(a00 (b11 d.up1 ∅) ?_ :)
 refine(a00 (b11 d.up2 ∅) ?_ :)
 exact sd rfl
theorem b02(k:Nat){w:PySem.Str}(hw:À7 w=true)(h1:(w == "yes")=false)(h2:(w == "no")=true){a b:D}(z:Z):a70 T (k + 3) e70 [.d (.tup [.str w]),.d a,.d b] z=some (.ok (.fr []) z):=by
 refine W.ok (f40 (ps:=3) (ns:=6) (b:=n70) rfl rfl (-0) ?_)
 refine(a00 (J21 (w:=w) (v:="yes") hw okY) ?_ :);refine ie (b:=w == "yes") h1 ?_;refine(a00 (J21 (w:=w) (v:="no") hw okN) ?_ :);exact it (b:=w == "no") h2 (sd rfl)
theorem p02(k:Nat){w:PySem.Str}(hw:À7 w=true)(h1:(w == "yes")=false)(h2:(w == "no")=false){n:Nat}{A B:D}{held lack:List Nat}(l1:held.length<=8)(l2:lack.length<=8){ea eb:List P2}(n1:ea.length<=256)(n2:eb.length<=256){z:Z}
  (a3:a70 T (k + 2) e70 [.d A,.d (.tup (held.map a60++[a60 n])),.d (b50 lack)] z=some (.ok (.fr (ea.map pairD)) z)) (b3:a70 T (k + 2) e70 [.d B,.d (b50 held),.d (.tup (lack.map a60++[a60 n]))] z=some (.ok (.fr (eb.map pairD)) z)) :
  a70 T (k + 3) e70 [.d (.tup [.str w,a60 n,A,B]),.d (b50 held),.d (b50 lack)] z=some (.ok (.fr ((ea++eb).map pairD)) z):=by
 refine W.ok (f40 (ps:=3) (ns:=6) (b:=n70) rfl rfl (-0) ?_)
 refine(a00 (J21 (w:=w) (v:="yes") hw okY) ?_ :);refine ie (b:=w == "yes") h1 ?_;refine(a00 (J21 (w:=w) (v:="no") hw okN) ?_ :);refine ie (b:=w == "no") h2 ?_;refine(a00 (H91 (a:=held.map a60) (b:=[a60 n]) (by rw[Å];show _ + 1<=_;omega)) ?_ :)
 refine Wo a3 ?_;refine(a00 (H91 (a:=lack.map a60) (b:=[a60 n]) (by rw[Å];show _ + 1<=_;omega)) ?_ :)
 refine Wo b3 ?_;refine(a00 (add_l (a:=ea.map pairD) (b:=eb.map pairD) (by rw[Å,Å];omega)) ?_ :)
 exact sd (by rw[Â1])
theorem h81{gd:List Nat->Bool}{K:Nat}(hK:K<=8):∀ (r k:Nat) (held lack:List Nat) (z:Z),Dec K r held lack->a70 T (k + r + 3) e70 [.d (V11 gd K r held lack).d,.d (b50 held),.d (b50 lack)] z=some (.ok (.fr ((endsF gd K r held lack).map pairD)) z):=by
 intro r
 induction r with
 |zero =>
  intro k held lack z d;unfold V11 endsF;cases gd held with
  |true=>exact K41 k okY (by decide +kernel) hK d z|false=>exact b02 k okN (by decide +kernel) (by decide +kernel) z
 |succ r ih =>
  intro k held lack z d;have le:=d.le;unfold V11 endsF;cases gd held with
  |true=>exact K41 (k + (r + 1)) okY (by decide +kernel) hK d z
  |false =>
   rw[if_neg Í,if_neg Í];cases gd (rest K lack) with
   |false=>exact b02 (k + (r + 1)) okN (by decide +kernel) (by decide +kernel) z
   |true =>
    rw[if_pos rfl,if_pos rfl];have a3:=ih k (held++[K - (r + 1)]) lack z d.hold;have b3:=ih k held (lack++[K - (r + 1)]) z d.lak;have l1:held.length<=K:=z40 d.up1 λn hn=>by have:=d.h1 n hn;omega
    have l2:lack.length<=K:=z40 d.up2 λn hn=>by have:=d.h2 n hn;omega
    have sn:∀ l:List Nat,b50 (l++[K - (r + 1)])=.tup (l.map a60++[a60 (K - (r + 1))]):=λl=>by unfold b50;rw[Â1];rfl
    rw[sn] at a3 b3;have n1:=A00 (g:=gd) (K:=K) r (held++[K - (r + 1)]) lack;have n2:=A00 (g:=gd) (K:=K) r held (lack++[K - (r + 1)]);have n3:2 ^ r<=256:=S00 ∅
    exact p02 (k + r + 1) okT (by decide +kernel) (by decide +kernel) ∅ ∅ ∅ ∅ a3 b3
abbrev F42(m:Int)(ps:List (Int × Int))(pl:List Nat):List P2:=o32 (b40 ps m.toNat pl) ps.length
theorem b12(g:c30 m ps):(F42 m ps pl).length<=1000:=Ù (A00 _ _ _) (Ù (S00 g.len) (-0))
theorem T80(k:Nat)(g:c30 m ps)(hp:g90 m pl)(z:Z):a70 T (k + ps.length + 10) C60 [.d (D10 m ps),.d (.tup (pl.map a60))] z=some (.ok (.d (a92 (F42 m ps pl))) z):=by
 have h8:=g.len;have h6:=hp.len g.m6;have o:=a31 (K:=ps.length) (g:=b40 ps m.toNat pl) (S20 g hp);have c1:a70 T (k + ps.length + 9) C30 [.d (D10 m ps),.d (.tup (pl.map a60))] z=some (.ok (.d (V11 (b40 ps m.toNat pl) ps.length ps.length [] []).d) z):=by
  refine W.ok (f40 (k:=k + ps.length + 6) (ps:=2) (ns:=2) (b:=r40) rfl rfl (-0) (Wo (i60 (k + ps.length) z g.web) (Wo (e40 (k + ps.length + 2) (t:=.tup (ps.map pr)) z hp.pls (decide_eq_true (by rw[Å];omega))) ?_)))
  refine(a00 (o:=lrD [.int ((ps.map pr).length:Nat)]) (S10 (n:=(ps.map pr).length) (by rw[Å];omega)) ?_ :)
  rw[U91];have c:=V21 g hp ps.length (k + 3) [] [] z (Dec.start _);rw[show k + 3 + ps.length + 5=k + ps.length + 6 + 2 from by omega] at c
  exact Wo c (sd rfl)
 have c2:=h81 (gd:=b40 ps m.toNat pl) h8 ps.length (k + 6) [] [] z (Dec.start _);rw[show k + 6 + ps.length + 3=k + ps.length + 9 from by omega] at c2
 refine W.ok (f40 (k:=k + ps.length + 7) (ps:=2) (ns:=2) (b:=r80) rfl rfl (-0) (Wo c1 (Wo c2 ?_)))
 refine(a00 (o92 o.up (b12 g)) ?_ :);exact sd rfl
end
theorem p81:∀ ls:List (List Nat),z41 (ls.map b50) (ls.map b50)=true
 |[]=>rfl
 |l::r=>by
  show(z41 (l.map a60) (l.map a60)&&z41 (r.map b50) (r.map b50))=true;rw[t40,p81 r,decide_eq_true rfl];rfl
theorem V31(ls:List (List Nat)):E40 .ne (.lst (ls.map b50)) (.lst (ls.map b50))=some false:=by
 show(if okD (.lst (ls.map b50))&&okD (.lst (ls.map b50)) then some (z41 (ls.map b50) (ls.map b50)) else none).map (!·)=_;rw[T81,p81];rfl
theorem b21{Q:Int × Int->Prop}:∀ {xs ys:List D},PySem.Paired (λ_ y=>∃ c,y=pr c/\Q c) xs ys->∃ cs:List (Int × Int),ys=cs.map pr/\cs.length=xs.length/\∀ c∈cs,Q c
 |_,_,.nil=>⟨[],rfl,rfl,λ_ h=>nomatch h⟩
 |_,_,.cons ⟨c,e,hc⟩ t=>by
  obtain⟨cs,rfl,hl,ha⟩:=b21 t;subst e;refine⟨c::cs,rfl,by rw[Õ,Õ,hl],λd hd=>?_⟩
  rcases à.mp hd with rfl | hd
  ·exact hc
  ·exact ha d hd
section
variable {m:Int}{ps cs:List (Int × Int)}{pl:List Nat}
theorem p12:a32 m ps=a92 (z80 m ps):=by
 show D.tup _=D.tup _;rw[Ü];rfl
theorem F52(g:c30 m ps):(z80 m ps).length<=1000:=by
 rw[Å];exact Ù (Ù I61 (o31 g)) (-0)
theorem L00(k:Nat)(g:c30 m ps)(hc:cs.length=ps.length)(ha:∀ c∈cs,IsC c)(z:Z):a70 T (k + 15) l80 [.d (D10 m ps),.d (.tup (cs.map pr))] z=some (.ok (.d (.bl true)) z):=by
 have m1:=g.m1;have m6:=g.m6;have h8:=g.len;have o:=J51 g;have hn:=F52 g;refine W.ok (f40 (k:=k + 12) (ps:=2) (ns:=7) (b:=g80) rfl rfl (-0) ?_)
 refine(a00 (o:=lrD [.int m]) (K60 ∅ ∅) ?_ :)
 have c1:=K90 (k + 2) g z;rw[p12] at c1;refine Wo c1 (Wo (B90 (k + 4) g g.all o hn z) ?_);have pl1000:(a92 (z80 m ps))=.tup ((z80 m ps).map pairD):=rfl;refine ip (by rw[Å];exact h40 hn) (I00 T92 (λx hx=>?_) ?_)
 ·obtain⟨p,_,rfl⟩:=Ë.mp hx;exact⟨rfl,rfl⟩
 have ef:((z80 m ps).map pairD).map T92=(h60 (e90 m ps (Ø m.toNat))).map b50:=by
  rw[Ü,Ü];rfl
 rw[ef];refine Wo (z50 (k + 4) g g.all z) ?_;refine(a00 (V31 _) ?_ :);refine Wo (p50 (k + 2) g g.all hc ha o hn z) (Wo (n31 (k + 3) g g.all hc ha z) (ie (b:=!((_:Int) == _&&((_:Int) == _&&true))) (T82 (D30 m ps cs (Ø m.toNat))) ?_));have bm:h20 ((z80 m ps).map pairD)=true:=by
  generalize z80 m ps=P
  induction P with
  |nil=>rfl|cons p r ih=>show((h20 (p.1.map a60)&&(h20 (p.2.map a60)&&true))&&h20 (r.map pairD))=true;rw[i10,i10,ih];rfl
 refine H90 (λxs ρ z2=>z2=z/\∃ (dn rest:List P2) (o5 o6:Option S),dn++rest=z80 m ps/\xs=rest.map pairD/\ρ=[some (.d (D10 m ps)),some (.d (.tup (cs.map pr))),some (.d (.tup ((Ø m.toNat).map a60))),some (.d (a92 (z80 m ps))),some (.d (.int (w50 dn λp=>2 ^ (ps.length - p.1.length - p.2.length)))),o5,o6]) _ ⟨rfl,[],z80 m ps,none,none,rfl,rfl,(itE (by show(h20 ((z80 m ps).map pairD)&&true)=true;rw[bm];rfl)).trans rfl⟩ ?_ ?_
 ·rintro x r ρ z2 ⟨rfl,dn,rest,o5,o6,hd,e,rfl⟩;cases rest with
  |nil=>cases e
  |cons p rest =>
   cases e;have hm:p∈z80 m ps:=by rw[← hd];exact Ú _ Ç
   obtain⟨_,le⟩:=a72 (o.lot p hm).1 (o.lot p hm).2 (o.dis p hm);have es:C00 .shl (.int 1) (.int (((ps.map pr).length:Int) - ((p.1.map a60).length:Int) - ((p.2.map a60).length:Int)))=some (.d (a60 (2 ^ (ps.length - p.1.length - p.2.length)))):=by
    have:=a62 (n:=ps.length - p.1.length - p.2.length) ∅
    rw[← this,Å,Å,Å]
    congr 2
    omega
   refine(a00 es ?_ :);refine⟨rfl,dn++[p],rest,some (.d (b50 p.1)),some (.d (b50 p.2)),by rw[Ä1];exact hd,rfl,?_⟩
   have e2:w50 dn (λp=>2 ^ (ps.length - p.1.length - p.2.length)) + ((2 ^ (ps.length - p.1.length - p.2.length):Nat):Int)=w50 (dn++[p]) λp=>2 ^ (ps.length - p.1.length - p.2.length):=by
    rw[F40];show _=_ + (2 ^ (ps.length - p.1.length - p.2.length) + 0);rw[add_zero,Ð1];rfl
   rw[← e2];rfl
 ·rintro ρ z2 ⟨rfl,dn,rest,o5,o6,hd,e,rfl⟩;cases rest with
  |cons _ _=>cases e
  |nil =>
   rw[Ã0] at hd;subst hd;refine Wo (m10 (k + 5) g g.all z2) ?_;refine sb (b:=w50 (z80 m ps) (λp=>2 ^ (ps.length - p.1.length - p.2.length)) == (((e90 m ps (Ø m.toNat)).map b50).length:Int)) ?_;rw[Å,t91 g g.all o,beq_self_eq_true]
abbrev sure(c:Int × Int):Prop:=c=(0,1)∨c=(1,1)
theorem K51{c:Int × Int}(h:sure c):IsC c:=by
 rcases h with rfl | rfl
 ·exact⟨by decide,by decide,by decide,by decide,by decide⟩
 ·exact⟨by decide,by decide,by decide,by decide,by decide⟩
theorem p91:∀ {cs:List (Int × Int)},(∀ c∈cs,sure c)->c60 cs=1
 |[],_=>rfl
 |c::r,h=>by
  show c.2 * c60 r=1;rw[p91 λd hd=>h d (É _ hd)];rcases h c Ç with rfl | rfl <;> rfl
theorem u21(g:c30 m ps)(hp:g90 m pl)(hc:cs.length=ps.length)(ha:∀ c∈cs,sure c):sure (D30 m ps cs pl):=by
 obtain⟨s0,s1⟩:=p41 g hp hc λc h=>K51 (ha c h);unfold D30;rw[p91 ha] at s1 ⊢;generalize i70 (a40 ps.length) (λl=>if b40 ps m.toNat pl l then amt (cf cs) ps.length l else 0)=s at s0 s1;rcases (show s=0∨s=1 by omega) with rfl | rfl
 ·exact .inl (-0)
 ·exact .inr (-0)
end
theorem p22(b:Bool):∃ mo:Int,T90 (.lst [.int 5,.int 8]) (.int (if b=true then 1 else 0))=some (.int mo)/\0<=mo/\mo<=8:=by
 cases b with
 |true=>exact⟨8,rfl,by decide,by decide⟩|false=>exact⟨5,rfl,by decide,by decide⟩
abbrev G82(L:Int):Int:=if (if (5:Int) < L then 5 else L) > 1 then(if (5:Int) < L then 5 else L) else 1
theorem F62(k:Nat)(ns:List Int):a70 T (k + 40) D62 [.d (.lst (ns.map D.int))] none=some (.ok (.d (.bl true)) none):=by
 refine W.ok (f40 (k:=k + 37) (ps:=1) (ns:=8) (b:=l62) rfl rfl (-0) ?_)
 have hN:0<=G82 ((ns.map D.int).length:Int)/\G82 ((ns.map D.int).length:Int) < 100000:=by
  unfold G82;split <;> (try split) <;> omega
 refine(a00 (K60 (m:=G82 ((ns.map D.int).length:Int)) hN.1 hN.2) ?_ :);refine H90 (λxs ρ z=>(∀ x∈xs,∃ j:Nat,x=.int j)/\∃ o1 o2 o3 o4 o5 o6 o7:Option S,ρ=[some (.d (.lst (ns.map D.int))),o1,o2,o3,o4,o5,o6,o7]) _ ⟨λx hx=>?_,_,_,_,_,_,_,_,rfl⟩ ?_ ?_
 ·obtain⟨i,_,rfl⟩:=Ë.mp hx;exact⟨i,rfl⟩
 ·rintro x r ρ z1 ⟨hx,o1,o2,o3,o4,o5,o6,o7,rfl⟩;obtain⟨j,rfl⟩:=hx x Ç;obtain⟨sn,sb,hz1,hst⟩:=S31 (k + 35) ns j z1;obtain⟨mo,emo,h0,h8⟩:=p22 ((j:Int) == 0);refine Wo hst ?_;refine(a00 emo ?_ :);refine(H11 (k + 34) hz1 h0 h8).imp λs z2 ⟨hz2,m,ps,e,g,_⟩=>?_;subst e;refine(Z60 (k + 35) (t:=.tup (ps.map pr)) g.m1 g.m6 hz2).imp λs z3 ⟨hz3,pl,e,hp⟩=>?_;subst e;refine(R70 (k + 34) (m:=m) (ts:=ps.map pr) hz3 (by rw[Å];exact g.len)).imp λs z4 ⟨hz4,cs,e,hc,ha⟩=>?_
  subst e;rw[Å] at hc;have h8:=g.len;have o:=a31 (K:=ps.length) (g:=b40 ps m.toNat pl) (S20 g hp);have hn:=b12 (pl:=pl) g;have c1:=T80 (k + 29 - ps.length) g hp z4;rw[show k + 29 - ps.length + ps.length + 10=k + 37 + 2 from by omega] at c1
  refine Wo c1 (Wo (B90 (k + 29) g hp o hn z4) (Wo (L00 (k + 24) g hc ha z4) ?_));refine Wo (p50 (k + 27) g hp hc ha o hn z4) (Wo (n31 (k + 28) g hp hc ha z4) (ie (b:=!((_:Int) == _&&((_:Int) == _&&true))) (T82 (D30 m ps cs pl)) ?_));refine ip (by rw[Å];exact h40 ∅) (T32 (I:=ZI) (P:=λ_ y=>∃ c,y=pr c/\sure c) hz4 (λx hx z5 hz5=>?_) λys z5 hz5 hps=>?_)
  ·refine(j80 (k + 36) 2 hz5 (-0) (-0)).imp λs z6 ⟨hz6,n,e,hn⟩=>?_
   subst e;rcases (show n=0∨n=1 by omega) with rfl | rfl
   ·exact⟨hz6,(0,1),rfl,.inl rfl⟩
   ·exact⟨hz6,(1,1),rfl,.inr rfl⟩
  ·obtain⟨c2,rfl,hl2,ha2⟩:=b21 hps;rw[Å] at hl2;have c:=p50 (k + 27) g hp hl2 (λc h=>K51 (ha2 c h)) o hn z5;have sr:=u21 g hp hl2 ha2;generalize D30 m ps c2 pl=f at c sr;refine Wo c ?_;rcases sr with rfl | rfl
   ·exact⟨λx hx'=>hx x (É _ hx'),_,_,_,_,_,_,_,rfl⟩
   ·exact⟨λx hx'=>hx x (É _ hx'),_,_,_,_,_,_,_,rfl⟩
 ·rintro ρ z1 ⟨_,o1,o2,o3,o4,o5,o6,o7,rfl⟩;exact⟨rfl,rfl⟩
theorem pure:∀ ns:List Int,ns.length<=63->a70 (tabOf rows) 40 D62 [.d (.lst (ns.map D.int))] none=some (.ok (.d (.bl true)) none):=λns _=>by
 rw[b73];exact F62 0 ns
open PySem L2 Q
theorem ok:rows.all (q22 (K40 rows) nums cn)=true:=by decide +kernel
theorem bd:q70 rows:=⟨λ_ _ _ _ _ _ us hl=>by obtain⟨_,_,rfl⟩:=us2 hl;rfl,
 λ_ _ _ _ _ _ us hl=>by obtain⟨_,_,rfl⟩:=us2 hl;rfl,
 λ_ _ _ _ _ _ us hl=>by obtain⟨_,_,rfl⟩:=us2 hl;rfl,
 λ_ _ _ _ _ _ us hl=>by obtain⟨_,_,rfl⟩:=us2 hl;rfl,
 λ_ _ _ _ _ _ us hl=>by obtain⟨_,rfl⟩:=us1 hl;rfl,
 λ_ _ _ _ _ _ us hl=>by obtain⟨_,rfl⟩:=us1 hl;rfl,
 λ_ _ _ _ _ _ us hl=>by obtain⟨_,rfl⟩:=us1 hl;rfl,
 λ_ _ _ _ _ _ us hl=>by obtain⟨_,_,rfl⟩:=us2 hl;rfl,
 λ_ _ _ _ _ _ us hl=>by obtain⟨_,_,rfl⟩:=us2 hl;rfl,
 λ_ _ _ _ _ _ us hl=>by obtain⟨_,_,rfl⟩:=us2 hl;rfl,
 λ_ _ _ _ _ _ us hl=>by obtain⟨_,rfl⟩:=us1 hl;rfl,
 λ_ _ _ _ _ _ us hl=>by obtain⟨_,rfl⟩:=us1 hl;rfl,
 λ_ _ _ _ _ _ us hl=>by obtain⟨_,_,rfl⟩:=us2 hl;rfl,
 λ_ _ _ _ _ _ us hl=>by obtain⟨_,_,rfl⟩:=us2 hl;rfl,
 λ_ _ _ _ _ _ us hl=>by obtain⟨_,rfl⟩:=us1 hl;rfl,
 λ_ _ _ _ _ _ us hl=>by obtain⟨_,_,rfl⟩:=us2 hl;rfl,
 λ_ _ _ _ _ _ us hl=>by obtain⟨_,rfl⟩:=us1 hl;rfl,
 λ_ _ _ _ _ _ us hl=>by obtain⟨_,_,rfl⟩:=us2 hl;rfl,
 λ_ _ _ _ _ _ us hl=>by obtain⟨_,_,_,rfl⟩:=us3 hl;rfl,
 λ_ _ _ _ _ _ us hl=>by obtain⟨_,rfl⟩:=us1 hl;rfl,
 λ_ _ _ _ _ _ us hl=>by obtain⟨_,_,rfl⟩:=us2 hl;rfl,
 λ_ _ _ _ _ _ us hl=>by obtain⟨_,_,rfl⟩:=us2 hl;rfl,
 λ_ _ _ _ _ _ us hl=>by obtain⟨_,_,rfl⟩:=us2 hl;rfl,
 λ_ _ _ _ _ _ us hl=>by obtain⟨_,_,_,_,rfl⟩:=us4 hl;rfl,
 λ_ _ _ _ _ _ us hl=>by obtain⟨_,_,rfl⟩:=us2 hl;rfl,
 λ_ _ _ _ _ _ us hl=>by obtain⟨_,rfl⟩:=us1 hl;rfl,
 λ_ _ _ _ _ _ us hl=>by obtain⟨_,_,rfl⟩:=us2 hl;rfl,
 λ_ _ _ _ _ _ us hl=>by obtain⟨_,rfl⟩:=us1 hl;rfl,
 λ_ _ _ _ _ _ us hl=>by obtain⟨_,rfl⟩:=us1 hl;rfl,
 λ_ _ _ _ _ _ us hl=>by obtain⟨_,_,rfl⟩:=us2 hl;rfl,
 λ_ _ _ _ _ _ us hl=>by obtain⟨_,_,rfl⟩:=us2 hl;rfl,
 λ_ _ _ _ _ _ us hl=>by obtain⟨_,rfl⟩:=us1 hl;rfl,
 λ_ _ _ _ _ _ us hl=>by obtain⟨_,rfl⟩:=us1 hl;rfl,
 λ_ _ _ _ _ _ us hl=>by obtain⟨_,_,_,rfl⟩:=us3 hl;rfl,
 λ_ _ _ _ _ _ us hl=>by obtain⟨_,_,rfl⟩:=us2 hl;rfl,
 λ_ _ _ _ _ _ us hl=>by obtain⟨_,rfl⟩:=us1 hl;rfl,
 λ_ _ _ _ _ _ us hl=>by obtain⟨_,_,rfl⟩:=us2 hl;rfl,
 λ_ _ _ _ _ _ us hl=>by obtain⟨_,_,_,rfl⟩:=us3 hl;rfl,
 λ_ _ _ _ _ _ us hl=>by obtain⟨_,_,_,rfl⟩:=us3 hl;rfl,
 λ_ _ _ _ _ _ us hl=>by obtain⟨_,_,rfl⟩:=us2 hl;rfl,
 λ_ _ _ _ _ _ us hl=>by obtain⟨_,_,rfl⟩:=us2 hl;rfl,
 λ_ _ _ _ _ _ us hl=>by obtain⟨_,_,_,_,rfl⟩:=us4 hl;rfl,
 λ_ _ _ _ _ _ us hl=>by obtain⟨_,_,_,rfl⟩:=us3 hl;rfl,
 λ_ _ _ _ _ _ us hl=>by obtain⟨_,_,rfl⟩:=us2 hl;rfl,
 λ_ _ _ _ _ _ us hl=>by obtain⟨_,rfl⟩:=us1 hl;rfl,
 λ_ _ _ _ _ _ us hl=>by obtain⟨_,rfl⟩:=us1 hl;rfl,
 λ_ _ _ _ _ _ us hl=>by obtain⟨_,_,rfl⟩:=us2 hl;rfl,
 λ_ _ _ _ _ _ us hl=>by obtain⟨_,_,rfl⟩:=us2 hl;rfl,
 λ_ _ _ _ _ _ us hl=>by obtain⟨_,_,_,rfl⟩:=us3 hl;rfl,
 λ_ _ _ _ _ _ us hl=>by obtain⟨_,_,rfl⟩:=us2 hl;rfl,
 λ_ _ _ _ _ _ us hl=>by obtain⟨_,_,rfl⟩:=us2 hl;rfl,
 λ_ _ _ _ _ _ us hl=>by obtain⟨_,_,rfl⟩:=us2 hl;rfl,
 λ_ _ _ _ _ _ us hl=>by obtain⟨_,_,rfl⟩:=us2 hl;rfl,
 λ_ _ _ _ _ _ us hl=>by obtain⟨_,_,rfl⟩:=us2 hl;rfl,
 λ_ _ _ _ _ _ us hl=>by obtain⟨_,_,rfl⟩:=us2 hl;rfl,
 λ_ _ _ _ _ _ us hl=>by obtain⟨_,_,rfl⟩:=us2 hl;rfl,
 λ_ _ _ _ _ _ us hl=>by obtain⟨_,rfl⟩:=us1 hl;rfl,
 λ_ _ _ _ _ _ us hl=>by obtain⟨_,_,rfl⟩:=us2 hl;rfl,
 λ_ _ _ _ _ _ us hl=>by obtain⟨_,_,rfl⟩:=us2 hl;rfl,
 λ_ _ _ _ _ _ us hl=>by obtain⟨_,rfl⟩:=us1 hl;rfl,trivial⟩
def asks:q00:=Y20 rows nums cn
def prg:Program:=ú
def vq:Program:=view prg [76]
def loose:List Str:=prg.boundNames.filter λx=>!(x == ("law":Str))
def runL(w:ø)(os:OsState):=(H80 PySem.W.through (PySem.W.stepOk 11 (some (.ref 6))) (PySem.W.stepT (denote treeTable) prg w) 20000 (k42 w os) (PySem.W.topStub prg)).map (λs =>
   (PySem.W.staticsOk (Í9 prg.main.body) (PySem.W.boot_heap w.params) s.abs.heap&&PySem.W.namesBound prg s.abs.heap&&PySem.W.gensDone s.abs&&PySem.W.laidKept (PySem.W.boot_heap w.params) s.abs.heap,
    PySem.W.openSeen vq loose (Í9 prg.main.body) (λ_=>true) true s.abs,asks.obs s.abs))
def runR(w:ø):=some (true,PySem.W.openGood vq loose,asks.due w)
def _root_.PySem.W.Fast.tw6185308153189517735:PySem.Program:=ú
theorem _root_.PySem.W.Fast.te6185308153189517735:ú=PySem.W.Fast.tw6185308153189517735:=rfl
theorem twins:(λ(_:runL=runL/\runR=runR)=>true) ⟨rfl,rfl⟩=true:=by k_qdec
theorem run_eq:∀ (w:ø) (os:OsState),PySem.W.Fast.tw14075725262101462980 w os=PySem.W.Fast.tw18139657281711212703 w:=λw os=>by kernel_rfl
theorem left:PySem.W.LeftO ú vq loose (λ_=>true) asks.hook.obs asks.hook.val 20000:=k52 (by kernel_rfl) rfl (λ_=>by kernel_rfl) λw os =>
 (congrFun (congrFun PySem.W.Fast.te14075725262101462980 w) os).trans ((run_eq w os).trans (congrFun PySem.W.Fast.te18139657281711212703 w).symm)
end K3
open PySem PySem.W PyProof.Rows
set_option maxRecDepth 100000 in
set_option maxHeartbeats 0 in
theorem PySem.Challenge.cw_tiechances_k53_whole_at_once_holds : PySem.Challenge.rw_tiechances_k53_whole_at_once.Holds := by
 w_on;o_law
 refine holds_open (q:=K3.vq) (loose:=K3.loose) (Xt:=λ_=>true) (XP:=λ_ _=>True) (Yf:=K3.asks.hook.obs) (Ya:=K3.asks.hook.val) (YP:=K3.asks.hook.says) K3.left K3.asks.hook.of K3.asks.hook.keeps (λ_ _=>trivial) (λ_ _ _ _ _=>trivial) (by rfl) (by rfl) (by rfl) (λs _=>recFacts_of rfl) rfl (by first | assumption | decide +kernel) (by decide +kernel) ⟨rfl,rfl,rfl,rfl,rfl,by decide +kernel⟩ ?hw ?hc
 case hw=>w_witness2
 case hc=>exact Q.S01 (l:=PySem.Challenge.rw_tiechances_k53_whole_at_once) (n:=63) (k:=40) (x:="_law_script") rfl (-0) rfl ⟨rfl,by decide,by decide⟩ (Q.l02 (k:=37) (iL:=59) K3.ok K3.bd rfl rfl rfl K3.pure)