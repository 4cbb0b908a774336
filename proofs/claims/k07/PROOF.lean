import PyProof.Rows.All
import Wide.All
import OpenK.AllK
import Wide.FinOn
import Lean
import PyProof.EqAt
import PyProof.EqKinds
import PyProof.TupleCall
import KE.KSortTup
import OpenK.KRaise
import OpenK.KOwn
import PyProof.ExcBaseAll.ValueError
import KE.KIsAll
import PyProof.ExcAttrAll.ValueError
import PyProof.NsDelKeeps
import PyProof.RulesAs
import KE.KTryMore
import KE.KLam
import KE.KNestM
import OpenK.KEqL
import PyProof.Rows.EqDataRows
import PyProof.NeKinds
import PyProof.FactsAll.dict
import PyProof.FactsAll.subtypes
import PyProof.ListRange
import PyProof.TupleOfGen
import PyProof.TupleOfSeq
import KE.KTupSum
import PyProof.Rows.SumAny
import KE.KDictLaws
import PySem.Challenge.RW_tiechances_k07_whole_shares
local macro_rules
|`(∅)=>`(by omega)
|`(-0)=>`(by decide)
local macro_rules
|`(tactic|omega)=>`(tactic|lia)
open Bool renaming and_eq_true→À,false_ne_true→Ó,not_eq_true'→ø,or_eq_true→Å1,true_and→Æ3,false_eq_true→È7,eq_iff_iff→Ë9,not_eq_false'→Ï8,false_and→Ò5,and_true→Ü2
open PySem renaming wpAny_bind→Á,Value→Ä,Shared→Æ,Addr→È,wpAny_pure→Ê,Expr→Ð,wpAny→Ñ,model→Ü,Program→ã,bootBuiltins→í,wpAny_newObj_type→ò,mainGlobals→ó,Heap→õ,compareOp→ú,World→ü,starEach→ý,Around→À3,wpAny_field→À7,Scope→Á3,sizeLine_eq→Á4,wpAny_truthy_bool→Á8,wpAny_callSpecial?_slot→Â1,Paired→Ã4,swappedStores→Ã5,binaryOp→Ã6,Stmt→Ã9,wpAny_call_entry→Ä2,wpAny_mono→Ä4,IsPair→Ä5,cLine→Ä9,mem_of_lookup→Å2,Builtin→Å6,wpAny_seqItems→Å7,wpAny_setField_rec→Æ4,call_meets→Æ7,wpAny_passesOwn→Æ8,wpAny_holding→Ç0,Env→Ç1,assignEach→È2,NameKind→É2,FuncData→É3,wpAny_pyIter_tuple→É6,wpAny_typeOf→Ê3,foldedSetIterable→Ê4,sliceBounds→Ì6,Operator→Ì9,importedModules→Í6,codeAny_builtin→Í7,wpAny_rule→Ï1,sysModules→Ï2,IsZip→Ï6,getItem→Ð8,swapsWith→Ñ4,codeAny_mono→Ò6,backTo→Ò7,IsRange→Ò8,wpAny_execs_nil→Ó0,wpAny_updateSeq_pair→Ô7,assign→Õ1,IsPart→Õ4,wpAny_standAt→Ö8,wpAny_onRaise→Ö9,foldedForSure→Ø1,wpAny_Call_Name_kw→Ø3,typeIs_int→Ø4,wpAny_sequenceKey→Ù6,valueAt→Ù7,codeAny→Ù8,callerA→Ù9,noFill_tuple_add→Û5,seqIndex_of→Ü0,letOwnedTupleGo→Ü3
open PySem.W renaming Frag→Â,kas_item→ð,kas_desc→Â2,kas_place→Ã2,kas_rev→Æ5,kas_asc→Æ6,boot_heap→È3,excIn→Í8,kas_descPart→Î7,kas_sort→Ï4,kia_tup→Ó9,kia_one→Ô0,codeHdIn→Õ2,tabObj→Ø7,kas_count→Û6,cellsFrom_some→Û7
open PySem.Heap renaming get?_push_of_some→Ã,get?_push_size→Ï,lt_size→â,size_push→Í5,IsTuple→Ð9,get?_update_other→Ü9,SameBut→Ý0,get?_update_self→Ý4
open List renaming mem_cons_of_mem→Å,length_map→Ç,mem_cons_self→É,getD_eq_getElem?_getD→Í,getElem?_eq_getElem→Ò,size_toArray→Ô,getElem?_set_ne→Õ,getElem?_map→Ö,mem_map→Ø,length_cons→Ú,range→Û,getElem?_set_self→Ý,mem_cons→ß,getElem?_eq_some_iff→ä,replicate→æ,mem_range→ç,mem_append_right→è,mem_of_getElem?→é,length_range→ì,mem_singleton→ñ,map_map→ô,all_eq_true→ö,length_set→û,length_append→À0,lookup_cons→À2,map_append→À5,getElem?_append_right→À8,mem_append→Á0,mem_cons→Á1,filterMap_cons→Á2,length_take→Á7,map_cons→Â0,length_nil→Â4,not_mem_nil→Â5,all_eq_true→Â6,replicate_succ→Ã3,range'→Ã8,map_congr_left→Ä0,all_cons→Ä1,drop_eq_getElem_cons→Ä8,getElem_mem→Å8,append_assoc→Æ1,nodup_cons→Æ2,pairwise_lt_range→Æ9,length_drop→Ç3,getElem?_append_left→Ç6,length_filter_le→Ç9,flatten_cons→È1,mem_filter→È4,zip_cons_cons→È5,nil_append→É1,take_of_length_le→É4,getElem?_eq_none→Ê2,forIn_cons→Ê8,contains_iff_mem→Ê9,append_nil→Ë0,lookup→Ë1,getElem?_append→Ë2,getElem?_range→Ì0,range_eq_range'→Ì2,mem_append_left→Ì3,contains_eq_mem→Ì4,perm_ext_iff_of_nodup→Í1,pairwise_cons→Í2,getElem?_take→Í3,getElem?_drop→Í4,range_succ→Î4,range'_succ→Ï9,isEmpty_iff→Ð0,getElem?_replicate→Ð1,reverse_cons→Ñ2,mem_of_mem_drop→Ò0,mem_iff_getElem→Ò1,length→Ò2,nodup_range→Ó1,cons_append→Ó4,mem_map_of_mem→Ó7,length_reverse→Ó8,forIn_nil→Ô1,Pairwise→Ô3,mem_filterMap→Ô5,set_eq_take_append_cons_drop→Õ3,zip_nil_left→Õ8,filter_congr→Õ9,pairwise_singleton→Ü5,getElem?_cons_zero→Ü6,drop_eq_nil_of_le→Ü8,length_singleton→Ý2,length_replicate→Ý3
open Option renaming map_eq_some_iff→Ë,bind_eq_some_iff→Î,map→Ì5,map_eq_some_iff→Ñ5,ne_none_iff_exists'→Ù4,isSome_iff_exists→Û3
open Nat renaming le_refl→Ì,le_trans→Ù,lt_of_lt_of_le→à,ne_of_lt→ê,lt_irrefl→ÿ,zero_le→Å4,le_of_lt→Ç5,pow_le_pow_right→Ç8,le_add_right→È0,lt_of_le_of_lt→È9,succ_le_succ→É8,lt_succ_of_lt→Ë3,min_eq_left→Ë7,ne_of_gt→Ó2,mul_comm→Ö2,le_succ_of_le→Ö3,le_of_eq→Ö4,min_eq_right→Ø9,lt_succ_self→Ù0,not_lt_zero→Ú4,le_mul_of_pos_left→Ý1
open ForInStep renaming yield→Þ,done→á
open PySem.Value renaming none→å,type→Â9,ref→Å3,bool→Ì7,notImplemented→Ñ6
open Int renaming mul_le_mul_of_nonneg_left→ë,le_of_lt→Á6,toNat_natCast→Â3,mul_comm→Ã1,le_trans→Å9,mul_pos→Æ0,mul_le_mul_of_nonneg_right→Ê5,mul_nonneg→Ê7,le_refl→Ë4,natCast_pow→Ë6,le_of_mul_le_mul_right→Î1,eq_of_mul_eq_mul_right→Î2,emod_eq_of_lt→Ï0,eq_ofNat_of_zero_le→Ð6,mul_assoc→Ð7,emod_nonneg→Ó3,add_zero→Ó5,lt_of_le_of_lt→Õ5,zero_add→Ö5,ediv_nonneg→Ú5
open PySem.NameKind renaming free→î,cell→Ä3
open PyProof.Rows renaming slot_tuple_getitem→ï,callWith_type1→À4,SortSt→Á9,seqObj→Ã0,IntsAre→É5,SortKind→Ì8,IsTup→Í0,listItems_at→Î6,AllBare→Ò9,slicePart_none→Ô8,oneType'→Ô9,envOfC→Õ0,pendingOf→Õ7,listUpdate_at→Ø0,assignInOrder_cons→Ø5,args_tuple_getitem→Ø6,get?_update_seq→Ü4
open PySem.Challenge renaming pw_tiechances_k07_whole_shares→ù
open Array renaming getElem?_toList→þ,extract→Ä7,getElem?_eq_getElem→Ç4,length_toList→È6,getD_eq_getD_getElem?→Ì1,toArray_toList→Î3,map_extract→Ï3,size→Ô4,map_append→Ö7
open Option.some renaming inj→À1,injEq→Ñ8
open Ne renaming symm→À6
open PySem.Obj renaming mapSeq→À9
open PySem.Str renaming ofString→Á5
open PySem.Builtin.Range renaming rangeSize→Â7,small→Ï7
open PySem.AutoSeq1 renaming wpAny_loadPart'→Â8,wpAny_loadPart'→Ã7,idx_int→Ô6,sub_tuple_tuple→Ù5
open False renaming elim→Ä6
open PySem.Builtin.Tuple renaming tupleExact→Å0
open PyProof.Rows.KeyOrd renaming kle_refl→Å5,kle_of_klt→Î0,kle_trans→Ö0
open PySem.Builtin.Slice renaming slicePlaces→Ç2,sliceAdjust→Ë5,sliceApplied→Ñ1
open PySem.F renaming slot_tuple_iterator_next→Ç7,args_tuple_add_2→Í9,entry_tuple_add→Î8,slot_tuple_add→Ï5,slot_tuple_lt→Ð4,called_tuple→Ñ0,slot_zip_next→Ò3,slot_int_rmul→Ò4,slot_dict_setdefault→Ö1,args_tuple_mul_2→Ö6,excBase_ValueError→Ø8,entry_tuple_mul→Ù2,type_list_append→Ú1,slot_list_append→Ú2,slot_dict_values→Ú3,slot_tuple_mul→Ú6,plain_tuple_new→Ú8,plain_list_iadd→Ú9,plainAttrs_list→Û0,plainAttrs_dict→Û1,args_tuple_lt_2→Û2,entry_tuple_lt→Û8,args_tuple_iterator_next_1→Û9,entry_tuple_iterator_next→Ü1
open True renaming intro→È8
open List.Pairwise renaming filter→É0
open PySem.Heap.SameBut renaming update→É7
open PyProof.Rows.SortSt renaming mk'→É9
open PySem.Builtin.List renaming listExtendWith→Ê0,listTooLong→Ë8
open Array.Perm renaming refl→Ê1
open PySem.Builtin.SmallTypes renaming ownedTupleIsFree→Ê6
open PySem.Paired renaming length→Î5
open Sum renaming inl→Î9,inr→Ó6
open PySem.W.KasT renaming ret→Ð2
open PySem.Heap.IsSliceOf renaming new→Ð3
open PySem.PyData renaming depthAll→Ð5,eqv→Ù3
open PySem.Around renaming under_plainId→Ñ3
open PySem.W.Looks renaming ld→Ñ7,of_pure→Ø2,here→Ú0
open Prod.mk renaming injEq→Ñ9
open PySem.SeqAt renaming EqAt→Ô2
open PySem.Calls renaming spliced_nil→Õ6,Name_function_global→Ú7,callWith_builtin→Ü7,evalArgs_plain→Ý5
open List.Perm renaming eq_of_pairwise→Ù1
open PySem.Builtin.Int renaming intBits→Û4
local macro_rules
|`(command|def $i:declId $s:optDeclSig $v)=>`(noncomputable def $i:declId $s:optDeclSig $v)
|`(command|abbrev $i:declId $s:optDeclSig $v)=>`(noncomputable abbrev $i:declId $s:optDeclSig $v)
open PySem.W (methodObj hideAll hideAll_get of_hideAll fnOf kia_one kitx_none kitx_bool kitx_int kitx_str kitx_tuple kitx_list kitx_dict kitAny kia_tup mg_of view)
open PySem.Heap (lt_size size_push)
open List (range filterMap_cons mem_cons_self mem_cons_of_mem mem_append_left mem_append_right append_nil of_mem_zip replicate length_take mem_of_getElem? length_append length_map size_toArray length_drop map_nil map_cons length_set reverse_cons replicate_succ flatten_cons foldl append_assoc foldl_cons lookup_cons forIn_cons toArray forIn_nil mem_cons not_mem_nil range' length_nil nil_append length_range zip_cons_cons length_cons getElem_mem map_id mapM_cons map_congr_left all_map all_eq_true all_cons range_eq_range' drop_eq_getElem_cons drop_length contains_iff_mem cons_append map_take pairwise_lt_range nodup_range mem_range range_succ mem_append contains_eq_mem filter_map length_filter_le)
open Array (length_toList toList getD size_map map_extract push extract setIfInBounds toArray_toList)
open Nat (ne_of_gt le_succ succ_le_succ zero_le le_add_right ble beq lt_succ_of_lt pow_le_pow_right min_eq_left mul_add rec)
open Int (mul_one toNat_natCast emod_nonneg emod_lt_of_pos mul_le_mul_of_nonneg_left gcd natCast_pow le_of_dvd natAbs_mul mul_assoc add_zero mul_pos pow_add mul_le_mul mul_nonneg add_mul)
open PyProof.Rows (lt_int)
open PySem.Builtin.Slice (sliceAdjust slicePlaces sliceApplied sliceFields)
open PySem.Builtin.Tuple (tupleItemsOf tupleExact tupleCompareSizes tupleTooMany tupleIsExact)
open Bool (and_eq_true false_eq_true not_eq_true' or_eq_true not_eq_false')
open Option (getD_none map_some map_eq_some_iff)
open PySem.Builtin.SmallTypes (nextOf ownedTupleIsFree ownedTupleHandOut)
set_option bootstrap.genMatcherCode false
set_option compiler.extract_closed false
set_option genInjectivity false
set_option genSizeOf false
set_option autoImplicit true
set_option relaxedAutoImplicit true
set_option Elab.async false
set_option linter.all false
set_option maxRecDepth 100000
namespace L2
open PySem PySem.Spec PyProof.Rows
abbrev Key:=Sum Int Str
def c72:Key->Ä->Bool
 |.inl k,v=>Ä.isInt k v|.inr x,v=>Ä.isStrOf x v
def I42(w:ü):Key->Int
 |.inl k=>hashInt k|.inr x=>hashStr w x
theorem d40:∀ {k:Key}{v:Ä},c72 k v=true->(∃ i t,k=Î9 i/\v=Ä.int i t)∨(∃ x t,k=Ó6 x/\v=Ä.str x t)
 |.inl i,v,h=>by
  obtain⟨t,e⟩:=Ä.isInt_shape (k:=i) (v:=v) h;exact .inl ⟨i,t,rfl,e⟩
 |.inr x,v,h=>by
  obtain⟨t,e⟩:=Ä.isStrOf_shape (x:=x) (v:=v) h;exact .inr ⟨x,t,rfl,e⟩
theorem c82(a b:Int):decide ((Î9 a:Key)=Î9 b)=(a == b):=by
 by_cases e:a=b
 ·subst e;simp
 ·have h:¬ (Î9 a:Key)=Î9 b:=λq=>e (Î9.inj q);rw[decide_eq_false h];exact(beq_eq_false_iff_ne.mpr e).symm
theorem c92(a b:Str):decide ((Ó6 a:Key)=Ó6 b)=decide (a=b):=by
 by_cases e:a=b
 ·subst e;simp
 ·have h:¬ (Ó6 a:Key)=Ó6 b:=λq=>e (Ó6.inj q);rw[decide_eq_false h,decide_eq_false e]
theorem d02(a:Int)(b:Str):decide ((Î9 a:Key)=Ó6 b)=false:=decide_eq_false (λq=>nomatch q)
theorem d12(a:Str)(b:Int):decide ((Ó6 a:Key)=Î9 b)=false:=decide_eq_false (λq=>nomatch q)
def g50(prog:ã)(w:ü):PySem.KeyKind prog w Key where
 is:=c72
 hash:=I42 w
 inj:=λv a b ha hb=>by
  rcases d40 ha with ⟨i,t,rfl,rfl⟩ | ⟨x,t,rfl,rfl⟩
  ·rcases d40 hb with ⟨j,u,rfl,e⟩ | ⟨y,u,rfl,e⟩
   ·injection e with e1 _;rw[e1]
   ·exact nomatch e
  ·rcases d40 hb with ⟨j,u,rfl,e⟩ | ⟨y,u,rfl,e⟩
   ·exact nomatch e
   ·injection e with e1 _;rw[e1]
 byValue:=λk v h=>by
  rcases d40 h with ⟨i,t,rfl,rfl⟩ | ⟨x,t,rfl,rfl⟩ <;> rfl
 pyHash:=λhv h=>by
  rcases d40 hv with ⟨i,t,rfl,rfl⟩ | ⟨x,t,rfl,rfl⟩
  ·exact wpAny_pyHash_int h
  ·exact wpAny_pyHash_str h
 eqBool:=λhu hv h=>by
  rcases d40 hu with ⟨i,t,rfl,rfl⟩ | ⟨x,t,rfl,rfl⟩
  ·rcases d40 hv with ⟨j,u,rfl,rfl⟩ | ⟨y,u,rfl,rfl⟩
   ·rw[c82] at h;exact wpAny_eqBool_int h
   ·rw[d02] at h;exact Ô2.int_str i t y u _ _ _ _ h
  ·rcases d40 hv with ⟨j,u,rfl,rfl⟩ | ⟨y,u,rfl,rfl⟩
   ·rw[d12] at h;exact Ô2.str_int x t j u _ _ _ _ h
   ·rw[c92] at h;exact wpAny_eqBool_str h
 «strs»:=λk x t v h=>by
  rcases d40 h with ⟨i,u,rfl,e⟩ | ⟨y,u,rfl,e⟩
  ·exact nomatch e
  ·injection e with e1 _;subst e1;cases v <;> rfl
inductive V where
 |non | bl (b:Bool) | int (i:Int) | str (x:Str) | byt (b:Array UInt8) | flt (b:UInt64) | ref (a:Addr) | ty (n:String)
 deriving DecidableEq
def RelV:V->Ä->Prop
 |.non,u=>u=å|.bl b,u=>u=Ì7 b|.int i,u=>∃ t,u=Ä.int i t|.str x,u=>∃ t,u=Ä.str x t|.byt b,u=>∃ t,u=Ä.bytes b t|.flt b,u=>∃ t,u=Ä.float b t|.ref a,u=>u=Å3 a|.ty n,u=>u=Â9 n
abbrev Vals:List V->List Ä->Prop:=Ã4 RelV
theorem Vals.length{xs:List V}{us:List Ä}(r:Vals xs us):xs.length=us.length:=Î5 r
theorem Vals.get:∀ {xs:List V}{us:List Ä}{i:Nat}{x:V},Vals xs us->xs[i]?=some x->∃ u,us[i]?=some u/\RelV x u
 |_,_,_,_,.nil,e=>by simp at e|_,_,0,_,.cons r _,e=>by simp at e;subst e;exact⟨_,rfl,r⟩
 |_,_,i + 1,x,.cons _ t,e=>by
  obtain⟨u,h1,h2⟩:=Vals.get (i:=i) (x:=x) t (by simpa using e)
  exact⟨u,by simpa using h1,h2⟩
theorem Vals.set{x:V}{u:Ä}(r:RelV x u):∀ {xs:List V}{us:List Ä} (i:Nat),Vals xs us->Vals (xs.set i x) (us.set i u)
 |_,_,_,.nil=>.nil|_,_,0,.cons _ t=>.cons r t|_,_,i + 1,.cons q t=>.cons q (Vals.set r i t)
theorem Vals.append:∀ {xs ys:List V}{us ws:List Ä},Vals xs us->Vals ys ws->Vals (xs++ys) (us++ws)
 |_,_,_,_,.nil,s=>s|_,_,_,_,.cons r t,s=>.cons r (Vals.append t s)
theorem Vals.take:∀ {xs:List V}{us:List Ä} (n:Nat),Vals xs us->Vals (xs.take n) (us.take n)
 |_,_,0,_=>.nil|_,_,_ + 1,.nil=>.nil|_,_,n + 1,.cons r t=>.cons r (Vals.take n t)
theorem Vals.drop:∀ {xs:List V}{us:List Ä} (n:Nat),Vals xs us->Vals (xs.drop n) (us.drop n)
 |_,_,0,r=>r|_,_,_ + 1,.nil=>.nil|_,_,n + 1,.cons _ t=>Vals.drop n t
def E92:Option V->Option Ä->Prop
 |some v,some u=>RelV v u|none,none=>True|_,_=>False
def KV{κ:Type}:List (κ × V)->List (κ × Ä)->Prop:=Ã4 λ(p:κ × V) (q:κ × Ä)=>p.1=q.1/\RelV p.2 q.2
def kV:Key->V
 |.inl i=>.int i|.inr x=>.str x
inductive HO where
 |lst (xs:List V)
 |tup (xs:List V)
 |dK (kvs:List (Key × V)) | dT (kvs:List (List Key × V))
 |set (S:Int->Bool) (n:Nat)
 |ins (C dx:Addr) (fs:List (Str × V))
 |own (x:Addr)
 |xd (fs:List (Str × V))
 |met (f x:Addr)
 |rng (lo hi:Int)
 |frz (o:Obj) (u:HO)
 |tbl (ps:Array Value)
 |ext (φ:Heap->Prop)
abbrev Hp:=È->Option HO
def upd(H:Hp)(a:È)(o:HO):Hp:=λb=>if b=a then some o else H b
theorem b50{H:Hp}{a:È}{o:HO}:upd H a o a=some o:=by unfold upd;rw[if_pos rfl]
theorem a30{H:Hp}{a b:È}{o:HO}(h:b≠a):upd H a o b=H b:=by unfold upd;rw[if_neg h]
theorem b10{H:Hp}{a b:È}{o:HO}(h:H a=some o)(h':H b=none):a≠b:=by
 intro e;subst e;rw[h] at h';cases h'
section
variable (P:ã) (w:ü)
def i80(H:Hp)(h:õ)(a:È):HO->Prop
 |.lst xs=>xs.length<=sizeLine/\∃ (its:List Ä) (n:Nat),Vals xs its/\h.get? a=some { cls:=.type "list",data:=.seq its.toArray n }|.tup xs=>xs.length<=sizeLine/\∃ its:List Ä,Vals xs its/\Í0 h a its.toArray|.dK kvs=>kvs.length<=sizeLine/\(a == Ï2)=false/\∃ vs,KV kvs vs/\h.DictOf (g50 P w) a vs
 |.dT kvs=>kvs.length<=sizeLine/\(a == Ï2)=false/\∃ xs:List (List Key × È × Ä),
   Ã4 (λ(p:List Key × V) (q:List Key × È × Ä)=>p.1=q.1/\H q.2.1=some (.tup (p.1.map kV))/\RelV p.2 q.2.2) kvs xs /\
   ∃ o es ep,h.get? a=some o/\o.ExactDict/\o.data=.dict es ep/\es.toList=xs.map (entryOfKey (tupleKind (g50 P w)))/\(xs.map (·.1)).Nodup
 |.set S n=>h.SetOf (intKind P w) a S n
 |.ins C dx fs=>H dx=some (.own a)/\fs.length<=1000/\dx≠a/\h.get? a=some (PySem.W.instObj C dx) /\
   ∃ mA,h.Ns1 dx mA/\(∀ f,E92 (fs.lookup f) (mA f))/\PySem.Within mA (fs.map (·.1))
 |.own _=>∃ o,h.get? a=some o|.xd fs=>∃ mA,h.Ns1 a mA/\∀ f,E92 (fs.lookup f) (mA f)|.rng lo hi=>∃ t u v,h.get? a=some { cls:=.type "range",data:=.fields #[.int lo t,.int hi u,.int 1 v] }|.frz o u=>h.get? a=some o/\i80 H h a u|.tbl ps=>h.get? a=some { cls:=.none,data:=.fields ps }|.met f x=>h.get? a=some (methodObj (.ref f) (.ref x))|.ext φ=>φ h/\(∃ o,h.get? a=some o)/\∀ h1 h2:õ,φ h1->(∀ o,h1.get? a=some o->h2.get? a=some o)->φ h2
def HOk(H:Hp)(h:õ):Prop:=∀ a o,H a=some o->i80 P w H h a o
end
section
variable {P:ã}{w:ü}{H H':Hp}{h h':õ}{a:È}{o:HO}
theorem i80.lt(x:i80 P w H h a o):a < h.objs.size:=by
 cases o with
 |lst xs=>obtain⟨_,_,_,_,e⟩:=x;exact â e
 |tup xs=>obtain⟨_,_,_,p⟩:=x;exact p.lt
 |dK kvs=>obtain⟨_,_,_,_,o,_,_,e,_⟩:=x;exact â e
 |dT kvs=>obtain⟨_,_,_,_,o,_,_,e,_⟩:=x;exact â e
 |set S n=>obtain⟨o,_,_,_,e,_⟩:=x;exact â e
 |ins C dx fs=>obtain⟨_,_,_,e,_⟩:=x;exact â e
 |own y=>obtain⟨_,e⟩:=x;exact â e
 |xd fs=>obtain⟨_,⟨_,_,_,e,_⟩,_⟩:=x;exact â e
 |rng lo hi=>obtain⟨_,_,_,e⟩:=x;exact â e
 |frz ob u=>obtain⟨e,_⟩:=x;exact â e
 |tbl ps=>exact â (show h.get? a=some _ from x)|met f y=>exact â (show h.get? a=some _ from x)|ext φ=>obtain⟨_,⟨_,e⟩,_⟩:=x;exact â e
theorem Ã4.b92{α β:Type}{F G:α->β->Prop}:∀ {l₁:List α}{l₂:List β},Ã4 F l₁ l₂->(∀ a b,F a b->G a b)->Ã4 G l₁ l₂
 |_,_,.nil,_=>.nil|_,_,.cons r t,f=>.cons (f _ _ r) (Ã4.b92 t f)
theorem i80.C71(x:i80 P w H h a o)(k:∀ b u,(b=a∨H b=some (.own a))->h.get? b=some u->h'.get? b=some u)
  (ho:∀ b,H b=some (.own a)->H' b=some (.own a)) (ht:∀ b xs,H b=some (.tup xs)->H' b=some (.tup xs)):i80 P w H' h' a o:=by
 induction o with
 |lst xs=>obtain⟨z,its,n,r,e⟩:=x;exact⟨z,its,n,r,k _ _ (.inl rfl) e⟩
 |tup xs=>obtain⟨z,its,r,ob,e,c⟩:=x;exact⟨z,its,r,ob,k _ _ (.inl rfl) e,c⟩
 |dK kvs=>obtain⟨z,y,vs,r,ob,es,ep,e,c⟩:=x;exact⟨z,y,vs,r,ob,es,ep,k _ _ (.inl rfl) e,c⟩
 |dT kvs =>
  obtain⟨z,y,xs,r,ob,es,ep,e,c⟩:=x;exact⟨z,y,xs,Ã4.b92 r λp q z=>⟨z.1,ht _ _ z.2.1,z.2.2⟩,ob,es,ep,k _ _ (.inl rfl) e,c⟩
 |set S n=>obtain⟨ob,es,ep,t,e,c⟩:=x;exact⟨ob,es,ep,t,k _ _ (.inl rfl) e,c⟩
 |ins C dx fs =>
  obtain⟨d,z,ne,e,mA,⟨od,es,ep,e2,c⟩,r⟩:=x;exact⟨ho _ d,z,ne,k _ _ (.inl rfl) e,mA,⟨od,es,ep,k _ _ (.inr d) e2,c⟩,r⟩
 |own y=>obtain⟨ob,e⟩:=x;exact⟨ob,k _ _ (.inl rfl) e⟩
 |xd fs=>obtain⟨mA,⟨od,es,ep,e,c⟩,r⟩:=x;exact⟨mA,⟨od,es,ep,k _ _ (.inl rfl) e,c⟩,r⟩
 |rng lo hi=>obtain⟨t,u,v,e⟩:=x;exact⟨t,u,v,k _ _ (.inl rfl) e⟩
 |frz ob u ih=>obtain⟨e,q⟩:=x;exact⟨k _ _ (.inl rfl) e,ih q⟩
 |tbl ps =>
  have e:h.get? a=some { cls:=.none,data:=.fields ps }:=x;show h'.get? a=some { cls:=.none,data:=.fields ps };exact k a _ (.inl rfl) e
 |met f y =>
  have e:h.get? a=some (methodObj (.ref f) (.ref y)):=x;show h'.get? a=some (methodObj (.ref f) (.ref y));exact k a _ (.inl rfl) e
 |ext φ=>obtain⟨p,⟨o,e⟩,st⟩:=x;exact⟨st _ _ p λo q=>k _ _ (.inl rfl) q,⟨o,k _ _ (.inl rfl) e⟩,st⟩
theorem HOk.lt(x:HOk P w H h)(e:H a=some o):a < h.objs.size:=(x a o e).lt
theorem HOk.fresh(x:HOk P w H h)(e:h.objs.size<=a):H a=none:=by
 cases q:H a with
 |none=>rfl|some u=>exact absurd (à (x.lt q) e) (ÿ _)
theorem HOk.kept(x:HOk P w H h)(k:∀ b u,h.get? b=some u->h'.get? b=some u):HOk P w H h':=λa o e =>
 (x a o e).C71 (λb u _ q=>k b u q) (λ_ q=>q) λ_ _ q=>q
theorem HOk.laid(x:HOk P w H h)(k:∀ b u,h.get? b=some u->h'.get? b=some u)(hp:h.objs.size<=a)(new:i80 P w (upd H a o) h' a o):HOk P w (upd H a o) h':=λb u e=>by
 have hn:=x.fresh hp;by_cases hb:b=a
 ·subst hb;rw[b50] at e;cases e;exact new
 ·rw[a30 hb] at e;exact(x b u e).C71 (λc v _ q=>k c v q) (λc q=>by rw[a30 (b10 q hn)];exact q) λc xs q=>by rw[a30 (b10 q hn)];exact q
end
def Rd(H:Hp)(a:È)(u:HO):Prop:=H a=some u∨∃ o,H a=some (.frz o u)
theorem Rd.ok{P:ã}{w:ü}{H:Hp}{h:õ}{a:È}{u:HO}(r:Rd H a u)(x:HOk P w H h):i80 P w H h a u:=by
 rcases r with r | ⟨o,r⟩
 ·exact x a u r
 ·obtain⟨_,q⟩:=x a _ r;exact q
def Mut:Option HO->Prop
 |some (.lst _)=>True|some (.dK _)=>True|some (.dT _)=>True|some (.set _ _)=>True|some (.ins _ _ _)=>True|some (.ext _)=>True|_=>False
section
variable {P:ã}{w:ü}{H:Hp}{h h':õ}{x e:È}{o':HO}
theorem HOk.write(ok:HOk P w H h)(mu:Mut (H x))(he:e=x∨H e=some (.own x))(k:∀ b u,b≠e->h.get? b=some u->h'.get? b=some u)(heo:∃ u,h'.get? e=some u)
  (new:i80 P w (upd H x o') h' x o'):HOk P w (upd H x o') h':=λb u q=>by
 have nown:∀ c y,H c=some (.own y)->c≠x:=λc y r z=>by subst z;rw[r] at mu;exact mu
 have ntup:∀ c xs,H c=some (.tup xs)->c≠x:=λc xs r z=>by subst z;rw[r] at mu;exact mu
 by_cases hb:b=x
 ·subst hb;rw[b50] at q;cases q;exact new
 ·rw[a30 hb] at q;by_cases hbe:b=e
  ·have q':H b=some (.own x):=by
    rcases he with z | z
    ·exact absurd (hbe.trans z) hb
    ·rw[hbe];exact z
   rw[q] at q';cases q';obtain⟨v,hv⟩:=heo;exact⟨v,by rw[hbe];exact hv⟩
  ·refine(ok b u q).C71 (λc v hc r=>k c v ?_ r) (λc r=>by rw[a30 (nown c b r)];exact r) λc xs r=>by rw[a30 (ntup c xs r)];exact r
   rcases hc with rfl | hc
   ·exact hbe
   ·rintro rfl;rcases he with z | z
    ·exact nown c b hc z
    ·rw[hc] at z;cases z;exact hb rfl
end
structure Un(fs ex:List Addr)(H H':Hp)(h h':Heap):Prop where
 keep:∀ b o,h.get? b=some o->H b=none->b ∉ fs->b ∉ ex->h'.get? b=some o
 slot:∀ b o,h.get? b=some o->H b=none->b∈fs->b ∉ ex->∃ sl,h'.get? b=some { o with slots:=sl }
 free:∀ b o,h.get? b=some o->H b=none->b ∉ ex->H' b=none
 there:∀ b o,h.get? b=some o->b ∉ ex->∃ o',h'.get? b=some o'
 tups:∀ b xs,H b=some (.tup xs)->H' b=some (.tup xs)
 frzs:∀ b o u,H b=some (.frz o u)->H' b=some (.frz o u)
 tbls:∀ b ps,H b=some (.tbl ps)->∃ more,H' b=some (.tbl (ps++more))
section
variable {fs fs' ex ex':List È}{H H1 H2:Hp}{h h1 h2 h':õ}{a x e:È}{o:HO}
theorem Un.any(u:Un fs ex H H1 h h1){b:È}{ob:Obj}(q:h.get? b=some ob)(n:H b=none)(hx:b ∉ ex):∃ sl,h1.get? b=some { ob with slots:=sl }:=by
 by_cases hb:b∈fs
 ·exact u.slot b ob q n hb hx
 ·exact⟨ob.slots,u.keep b ob q n hb hx⟩
theorem Un.trans(a:Un fs ex H H1 h h1)(b:Un fs ex H1 H2 h1 h2):Un fs ex H H2 h h2 where
 keep:=λc ob q n hc hx=>b.keep c ob (a.keep c ob q n hc hx) (a.free c ob q n hx) hc hx
 slot:=λc ob q n hc hx=>by
  obtain⟨sl,e1⟩:=a.slot c ob q n hc hx;obtain⟨sl',e2⟩:=b.slot c _ e1 (a.free c ob q n hx) hc hx;exact⟨sl',e2⟩
 free:=λc ob q n hx=>by
  obtain⟨o',e1⟩:=a.there c ob q hx;exact b.free c o' e1 (a.free c ob q n hx) hx
 there:=λc ob q hx=>by
  obtain⟨o',e1⟩:=a.there c ob q hx;exact b.there c o' e1 hx
 tups:=λc xs q=>b.tups c xs (a.tups c xs q)
 frzs:=λc ob xs q=>b.frzs c ob xs (a.frzs c ob xs q)
 tbls:=λc ps q=>by
  obtain⟨m1,e1⟩:=a.tbls c ps q;obtain⟨m2,e2⟩:=b.tbls c _ e1;exact⟨m1++m2,by rw[e2,Array.append_assoc]⟩
theorem Un.kept(k:∀ b u,h.get? b=some u->h'.get? b=some u):Un fs ex H H h h' :=
 ⟨λb ob q _ _ _=>k b ob q,λb ob q _ _ _=>⟨ob.slots,k b ob q⟩,λ_ _ _ n _=>n,λb ob q _=>⟨ob,k b ob q⟩,λ_ _ q=>q,λ_ _ _ q=>q,λ_ ps q=>⟨#[],by rw[q];simp⟩⟩
theorem Un.refl:Un fs ex H H h h:=Un.kept λ_ _ q=>q
theorem Un.laid(k:∀ b u,h.get? b=some u->h'.get? b=some u)(hp:h.objs.size<=a)(hn:H a=none):Un fs ex H (upd H a o) h h' where
 keep:=λb u q _ _ _=>k b u q
 slot:=λb u q _ _ _=>⟨u.slots,k b u q⟩
 free:=λb u q n _=>by rw[a30 (ê (à (â q) hp))];exact n
 there:=λb u q _=>⟨u,k b u q⟩
 tups:=λb xs q=>by rw[a30 (b10 q hn)];exact q
 frzs:=λb u xs q=>by rw[a30 (b10 q hn)];exact q
 tbls:=λb ps q=>⟨#[],by rw[a30 (b10 q hn),q];simp⟩
theorem Un.write(mu:Mut (H x))(he:e=x∨H e=some (.own x))(k:∀ b u,b≠e->h.get? b=some u->h'.get? b=some u)(heo:∃ u,h'.get? e=some u):Un fs ex H (upd H x o) h h':=by
 have hx:∀ b,H b=none->b≠x:=λb n z=>by subst z;rw[n] at mu;exact mu
 have hb:∀ b,H b=none->b≠e:=λb n z=>by
  subst z;rcases he with r | r
  ·exact hx b n r
  ·rw[n] at r;cases r
 have hm:∀ b u,H b=some u->¬ Mut (some u)->b≠x:=λb u q nm z=>by subst z;rw[q] at mu;exact nm mu
 refine⟨λb u q n _ _=>k b u (hb b n) q,λb u q n _ _=>⟨u.slots,k b u (hb b n) q⟩,λb u q n _=>by rw[a30 (hx b n)];exact n,λb u q _=>?_,
  λb xs q=>by rw[a30 (hm b _ q λz=>z)];exact q,λb u xs q=>by rw[a30 (hm b _ q λz=>z)];exact q,λb ps q=>⟨#[],by rw[a30 (hm b _ q λz=>z),q];simp⟩⟩
 by_cases hbe:b=e
 ·subst hbe;exact heo
 ·exact⟨u,k b u hbe q⟩
theorem Un.mono(u:Un fs ex H H1 h h1)(hs:∀ b∈fs,b∈fs')(hx:∀ b∈ex,b∈ex'):Un fs' ex' H H1 h h1 :=
 ⟨λb ob q n hb he=>u.keep b ob q n (λz=>hb (hs b z)) λz=>he (hx b z),λ_ _ q n _ he=>u.any q n λz=>he (hx _ z),λb ob q n he=>u.free b ob q n λz=>he (hx b z),λb ob q he=>u.there b ob q λz=>he (hx b z),u.tups,u.frzs,u.tbls⟩
end
def trk(h:õ)(H:Hp):List Addr:=(Û h.objs.size).filter λa=>(H a).isSome
def C81(h:õ)(H:Hp):Heap:=hideAll h (trk h H)
theorem m81(h:õ)(H:Hp):(C81 h H).objs.size=h.objs.size:=PySem.W.hideAll_size _ _
theorem I80{h:õ}{H:Hp}{b:È}{o:Obj}(e:h.get? b=some o)(n:H b=none):(C81 h H).get? b=some o :=
 hideAll_get _ e λhm=>by
  have q:(H b).isSome=true:=(È4.mp hm).2;rw[n] at q;simp at q
theorem Q31{h:õ}{H:Hp}{b:È}{o:Obj}(e:(C81 h H).get? b=some o):h.get? b=some o/\H b=none:=by
 have e':h.get? b=some o:=of_hideAll (trk h H) e;refine⟨e',?_⟩;cases q:H b with
 |none=>rfl
 |some x =>
  have hm:b∈trk h H:=È4.mpr ⟨ç.mpr (â e'),by simp[q]⟩
  have z:(C81 h H).get? b=none:=PySem.W.hideAll_none (trk h H) hm;rw[z] at e;cases e
structure Mod(K:PySem.W.Frag)(mg:Str->Option Value)(base:Heap):Prop where
 kin:K.In base
 glob:base.Ns mainGlobals mg
 blt:∃ mb,base.Ns builtinsNs mb/\∀ x:Str,x≠"__name__"->mb x=bootBuiltins x
 nolimit:base.NoLimit
structure Cx where
 prog:Program
 w:World
 K:PySem.W.Frag
 mg:Str->Option Value
 base:Heap
 A:Around
 N:List Str
 s₀:Shared
 H₀:Hp
 env:Env
 outer:List Env
 stack:List Env
 ex:List Addr
 fn:Str->Bool
 calm:Bool
 pn:List (Addr × Obj)
 xe:Value->Shared->Prop
def frs(l:List Env):List Addr:=l.filterMap (·.frame)
abbrev Cx.fs(X:Cx):List Addr:=frs X.outer
def Vis(sc:Á3)(x:Str):Prop:=sc.names.lookup x=some .local∨sc.names.lookup x=some .cell∨sc.names.lookup x=some .free
def Loc(sc:Á3)(x:Str):Prop:=sc.names.lookup x=some .local∨sc.names.lookup x=some .cell
def Look(env:Env)(h:õ)(m:Str->Option Ä)(x:Str)(u:Ä):Prop :=
 (env.kindOf x=some .local/\m x=some u)∨((env.kindOf x=some .cell∨env.kindOf x=some .free)/\∃ c,env.cells.lookup x=some c/\h.IsCell c (some u))
structure Cx.Ok(X:Cx):Prop where
 mod:Mod X.K X.mg X.base
 kind:X.env.scope.kind=.function
 glob:X.env.globals=mainGlobals
 blt:X.env.builtins=builtinsNs
 above:X.s₀.heap.objs.size<=X.env.locals
 inj:∀ x y c,X.env.cells.lookup x=some c->X.env.cells.lookup y=some c->x=y
 has:∀ x,(X.env.kindOf x=some .cell∨X.env.kindOf x=some .free)->∃ c,X.env.cells.lookup x=some c
 cab:∀ x c,X.fn x=true->X.env.cells.lookup x=some c->X.s₀.heap.objs.size<=c
 hd:X.calm=true->X.A.handled=none
 frames:X.A.frames=some X.stack
 stk:X.stack=X.outer∨(X.stack=X.env::X.outer/\X.env.frame=some X.env.locals)
 exf:∀ b∈X.ex,b≠X.env.locals/\∀ x c,X.env.cells.lookup x=some c->c≠b
 bs:∀ b o,X.base.get? b=some o->X.s₀.heap.get? b=some o/\X.H₀ b=none
 bsz:X.base.objs.size<=X.s₀.heap.objs.size
 noex:∀ b o,X.base.get? b=some o->b ∉ X.ex
 exfs:∀ b∈X.ex,b ∉ X.fs
 C31:X.s₀.heap.FunFrames X.base X.outer
 frf:∀ b∈X.fs,X.H₀ b=none
structure Inv(X:Cx)(pins:List (Addr × Obj))(σ:List (Option V))(H:Hp)(s:Shared):Prop where
 ok:X.Ok
 os:s.os=X.s₀.os
 bare:AllBare s.gens
 base:Un X.fs X.ex X.H₀ H X.s₀.heap s.heap
 loc:∃ m,s.heap.Ns X.env.locals m/\∀ (i:Nat) (x:Str) (v:V),X.N[i]?=some x->σ[i]?=some (some v)->Vis X.env.scope x->∃ u,RelV v u/\Look X.env s.heap m x u
 cell:∀ x c,X.env.cells.lookup x=some c->∃ v,s.heap.IsCell c v
 free:H X.env.locals=none
 freeC:∀ x c,X.env.cells.lookup x=some c->H c=none
 pin:∀ p∈X.pn++pins,s.heap.get? p.1=some p.2/\H p.1=none/\p.1≠X.env.locals/\p.1 ∉ X.fs/\∀ v,p.2.data≠.cell v
 hok:HOk X.prog X.w H s.heap
 len:σ.length=X.N.length
section
variable {X:Cx}{pins:List (È × Obj)}{σ:List (Option V)}{H H':Hp}{s:Æ}{h':õ}
theorem Cx.Ok.I52(ok:X.Ok){b:È}{o:Obj}(e:X.base.get? b=some o):b ∉ X.fs:=λhb=>by
 have:=(ok.C31.mem hb).1;rw[e] at this;cases this
theorem Inv.bs(I:Inv X pins σ H s):∀ b o,X.base.get? b=some o->s.heap.get? b=some o/\H b=none:=λb o e =>
 ⟨I.base.keep b o (I.ok.bs b o e).1 (I.ok.bs b o e).2 (I.ok.I52 e) (I.ok.noex b o e),I.base.free b o (I.ok.bs b o e).1 (I.ok.bs b o e).2 (I.ok.noex b o e)⟩
theorem Inv.bk(I:Inv X pins σ H s):∀ b o,X.base.get? b=some o->s.heap.get? b=some o:=λb o e=>(I.bs b o e).1
theorem Inv.mod(I:Inv X pins σ H s):Mod X.K X.mg X.base:=I.ok.mod
theorem Inv.kIn(I:Inv X pins σ H s):X.K.In s.heap:=I.ok.mod.kin.keeps I.bk
theorem Inv.lt(I:Inv X pins σ H s):X.env.locals < s.heap.objs.size:=let ⟨_,hn,_⟩:=I.loc;hn.lt
theorem Inv.sz(I:Inv X pins σ H s):X.s₀.heap.objs.size<=s.heap.objs.size:=Ù I.ok.above (Ç5 I.lt)
theorem Inv.I62(I:Inv X pins σ H s){a:È}(h:s.heap.objs.size<=a):a ∉ X.fs:=λhb=>by
 obtain⟨_,o,ho,_⟩:=I.ok.C31.mem hb;exact absurd (à (â ho) (Ù I.sz h)) (ÿ _)
theorem Inv.cne(I:Inv X pins σ H s):∀ x c,X.env.cells.lookup x=some c->c≠X.env.locals:=λx c e z=>by
 obtain⟨v,o,ho,hd⟩:=I.cell x c e;obtain⟨m,⟨o',es,ep,ho',hd',_⟩,_⟩:=I.loc;rw[z,ho'] at ho;cases ho;rw[hd'] at hd;cases hd
theorem Inv.C31(I:Inv X pins σ H s):s.heap.FunFrames X.base X.outer:=by
 have all:∀ (l:List Env),(∀ b∈frs l,b∈X.fs)->X.s₀.heap.FunFrames X.base l->s.heap.FunFrames X.base l:=by
  intro l
  induction l with
  |nil=>intro _ _;trivial
  |cons env r ih =>
   intro hs hl;obtain⟨hk,⟨L,o,hf,hn,ho,hd⟩,hr⟩:=hl;have hL:L∈X.fs:=hs L (by unfold frs;rw[Á2,hf];exact É)
   obtain⟨sl,e⟩:=I.base.slot L o ho (I.ok.frf L hL) hL λz=>I.ok.exfs L z hL;exact⟨hk,⟨L,_,hf,hn,e,hd⟩,ih (λb hb=>hs b (by unfold frs;rw[Á2,hf];exact Å _ hb)) hr⟩
 exact all X.outer (λ_ hb=>hb) I.ok.C31
theorem Inv.stack(I:Inv X pins σ H s):s.heap.FunFrames X.base X.stack:=by
 rcases I.ok.stk with e | ⟨e,hf⟩
 ·rw[e];exact I.C31
 ·rw[e];obtain⟨m,hn,_⟩:=I.loc;refine .cons (by rw[I.ok.kind];decide) hf hn ?_ I.C31
  exact õ.get?_none_of_le (Ù I.ok.bsz I.ok.above)
theorem Inv.m91(I:Inv X pins σ H s):∀ b∈frs X.stack,b∈X.env.locals::X.fs:=λb hb=>by
 rcases I.ok.stk with e | ⟨e,hf⟩
 ·rw[e] at hb;exact Å _ hb
 ·rw[e] at hb;unfold frs at hb;rw[Á2,hf] at hb;exact hb
theorem Inv.W40(I:Inv X pins σ H s):∀ b∈frs X.stack,H b=none:=λb hb=>by
 rcases ß.mp (I.m91 b hb) with e | hb
 ·rw[e];exact I.free
 ·obtain⟨_,o,ho,_⟩:=I.ok.C31.mem hb;exact I.base.free b o ho (I.ok.frf b hb) λz=>I.ok.exfs b z hb
theorem Inv.step{g':Array GenState}{t':Nat}{d':Drawn}{ch:List È}(I:Inv X pins σ H s)
  (hch:∀ b∈ch,(b∈X.ex∨X.s₀.heap.objs.size<=b)/\b≠X.env.locals/\(∀ x c,X.env.cells.lookup x=some c->c≠b)/\∀ p∈X.pn++pins,p.1≠b)
  (keep:∀ b o,b≠X.env.locals->b ∉ X.fs->b ∉ ch->s.heap.get? b=some o->H b=none->h'.get? b=some o)
  (slot:∀ b o,b≠X.env.locals->b∈X.fs->b ∉ ch->s.heap.get? b=some o->H b=none->∃ sl,h'.get? b=some { o with slots:=sl }) (free:∀ b o,b ∉ ch->s.heap.get? b=some o->H b=none->H' b=none)
  (there:∀ b o,b ∉ ch->s.heap.get? b=some o->∃ o',h'.get? b=some o')
  (tups:∀ b xs,H b=some (.tup xs)->H' b=some (.tup xs)) (frzs:∀ b o u,H b=some (.frz o u)->H' b=some (.frz o u)) (tbls:∀ b ps,H b=some (.tbl ps)->∃ more,H' b=some (.tbl (ps++more)))
  (ns:∀ m,s.heap.Ns X.env.locals m->h'.Ns X.env.locals m) (hok:HOk X.prog X.w H' h') (hg:Ò9 g') :
  Inv X pins σ H' { s with heap:=h',gens:=g',drawn:=d',toks:=t' }:=by
 have neL:∀ b o,X.s₀.heap.get? b=some o->b≠X.env.locals:=λb o e=>ê (à (â e) I.ok.above);have neC:∀ b o,X.s₀.heap.get? b=some o->b ∉ X.ex->b ∉ ch:=λb o e hx hb=>by
  rcases (hch b hb).1 with z | z
  ·exact hx z
  ·exact absurd (à (â e) z) (ÿ _)
 have cellK:∀ x c,X.env.cells.lookup x=some c->∀ v,s.heap.IsCell c v->h'.IsCell c v:=λx c e v ⟨o,ho,hd⟩=>by
  have nch:c ∉ ch:=λz=>(hch c z).2.2.1 x c e rfl;by_cases hc:c∈X.fs
  ·obtain⟨sl,q⟩:=slot c o (I.cne x c e) hc nch ho (I.freeC x c e);exact⟨_,q,hd⟩
  ·exact⟨o,keep c o (I.cne x c e) hc nch ho (I.freeC x c e),hd⟩
 refine⟨I.ok,I.os,hg,⟨λb o e n hb hx=>?_,λb o e n hb hx=>?_,λb o e n hx=>?_,λb o e hx=>?_,λb xs e=>tups b xs (I.base.tups b xs e),λb o xs e=>frzs b o xs (I.base.frzs b o xs e),λb ps e=>?_⟩,?_,λx c e=>?_,?_,λx c e=>?_,λp hp=>?_,hok,I.len⟩
 ·exact keep b o (neL b o e) hb (neC b o e hx) (I.base.keep b o e n hb hx) (I.base.free b o e n hx)
 ·obtain⟨sl,e1⟩:=I.base.slot b o e n hb hx;obtain⟨sl',e2⟩:=slot b _ (neL b o e) hb (neC b o e hx) e1 (I.base.free b o e n hx);exact⟨sl',e2⟩
 ·obtain⟨o',e1⟩:=I.base.there b o e hx;exact free b o' (neC b o e hx) e1 (I.base.free b o e n hx)
 ·obtain⟨o',e1⟩:=I.base.there b o e hx;exact there b o' (neC b o e hx) e1
 ·obtain⟨m1,e1⟩:=I.base.tbls b ps e;obtain⟨m2,e2⟩:=tbls b _ e1;exact⟨m1++m2,by rw[e2,Array.append_assoc]⟩
 ·obtain⟨m,hn,hl⟩:=I.loc;refine⟨m,ns m hn,λi x v e1 e2 e3=>?_⟩;obtain⟨u,r,l⟩:=hl i x v e1 e2 e3;refine⟨u,r,?_⟩;rcases l with l | ⟨k,c,e,z⟩
  ·exact .inl l
  ·exact .inr ⟨k,c,e,cellK x c e _ z⟩
 ·obtain⟨v,z⟩:=I.cell x c e;exact⟨v,cellK x c e v z⟩
 ·obtain⟨m,⟨o,_,_,ho,_⟩,_⟩:=I.loc;exact free _ o (λz=>(hch _ z).2.1 rfl) ho I.free
 ·obtain⟨v,o,ho,hd⟩:=I.cell x c e;exact free c o (λz=>(hch c z).2.2.1 x c e rfl) ho (I.freeC x c e)
 ·obtain⟨e,n,ne,nf,d⟩:=I.pin p hp;have nch:p.1 ∉ ch:=λz=>(hch p.1 z).2.2.2 p hp rfl;exact⟨keep p.1 p.2 ne nf nch e n,free p.1 p.2 nch e n,ne,nf,d⟩
theorem Inv.un{t':Nat}(I:Inv X pins σ H s)(u:Un X.fs [] H H' s.heap h')(hok:HOk X.prog X.w H' h'):Inv X pins σ H' { s with heap:=h',toks:=t' }:=by
 obtain⟨m,⟨o,es,ep,ho,r⟩,_⟩:=id I.loc;obtain⟨sl,hL⟩:=u.any ho I.free (by simp)
 exact I.step (g':=s.gens) (d':=s.drawn) (ch:=[]) (λ_ z=>nomatch z) (λb o _ hb _ e n=>u.keep b o e n hb (by simp)) (λb o _ hb _ e n=>u.slot b o e n hb (by simp)) (λb o _ e n=>u.free b o e n (by simp)) (λb o _ e=>u.there b o e (by simp)) u.tups u.frzs u.tbls (λm' hm=>by
  obtain⟨o',es',ep',ho',r'⟩:=hm;rw[ho] at ho';cases ho';exact⟨_,es',ep',hL,r'⟩) hok I.bare
theorem Inv.call{g':Array GenState}{t':Nat}{d':Drawn}{ch:List È}(I:Inv X pins σ H s)(u:Un (frs X.stack) ch H H' s.heap h')(hok:HOk X.prog X.w H' h')(hg:Ò9 g')
  (hch:∀ b∈ch,(b∈X.ex∨X.s₀.heap.objs.size<=b)/\b≠X.env.locals/\(∀ x c,X.env.cells.lookup x=some c->c≠b)/\∀ p∈X.pn++pins,p.1≠b) :
  Inv X pins σ H' { s with heap:=h',gens:=g',drawn:=d',toks:=t' }:=by
 obtain⟨m,⟨o,es,ep,ho,r⟩,_⟩:=id I.loc;obtain⟨sl,hL⟩:=u.any ho I.free λz=>(hch _ z).2.1 rfl;exact I.step (ch:=ch) hch (λb o hL hb hc e n=>u.keep b o e n (λz=>(ß.mp (I.m91 b z)).elim hL hb) hc) (λb o _ _ hc e n=>u.any e n hc) (λb o hc e n=>u.free b o e n hc) (λb o hc e=>u.there b o e hc) u.tups u.frzs u.tbls (λm' hm=>by
  obtain⟨o',es',ep',ho',r'⟩:=hm;rw[ho] at ho';cases ho';exact⟨_,es',ep',hL,r'⟩) hok hg
theorem Inv.turned{t':Nat}{it:È}(I:Inv X pins σ H s)(k:∀ b o,b≠it->s.heap.get? b=some o->h'.get? b=some o)(hn:H it=none)(hL:it≠X.env.locals)
  (h1:it∈X.ex∨X.s₀.heap.objs.size<=it) (h2:∀ x c,X.env.cells.lookup x=some c->c≠it) (h3:∀ p∈X.pn++pins,p.1≠it):Inv X pins σ H { s with heap:=h',toks:=t' }:=by
 have nit:∀ b u,H b=some u->b≠it:=λb u e z=>by rw[z,hn] at e;cases e
 refine I.step (g':=s.gens) (d':=s.drawn) (ch:=[it]) (λb hb=>?_) (λb o _ _ hc e _=>k b o (λz=>hc (by simp[z])) e) (λb o _ _ hc e _=>⟨o.slots,k b o (λz=>hc (by simp[z])) e⟩) (λ_ _ _ _ n=>n)
  (λb o hc e=>⟨o,k b o (λz=>hc (by simp[z])) e⟩) (λ_ _ e=>e) (λ_ _ _ e=>e) (λb ps e=>⟨#[],by rw[e];simp⟩) (λm hm=>?_) (λb u e=>?_) I.bare
 ·have e:b=it:=by simpa using hb
  subst e;exact⟨h1,hL,h2,h3⟩
 ·obtain⟨o,es,ep,ho,r⟩:=hm;exact⟨o,es,ep,k _ o (À6 hL) ho,r⟩
 ·refine(I.hok b u e).C71 (λc v hc q=>k c v ?_ q) (λ_ q=>q) λ_ _ q=>q;rcases hc with z | z
  ·rw[z];exact nit b u e
  ·exact nit c _ z
theorem Inv.tok(I:Inv X pins σ H s)(t:Nat):Inv X pins σ H { s with toks:=t }:=I.un (h':=s.heap) (t':=t) Un.refl I.hok
theorem Inv.kept{t':Nat}(I:Inv X pins σ H s)(k:∀ b u,s.heap.get? b=some u->h'.get? b=some u):Inv X pins σ H { s with heap:=h',toks:=t' }:=I.un (Un.kept k) (I.hok.kept k)
theorem Inv.laid{a:È}{o:HO}{t':Nat}(I:Inv X pins σ H s)(k:∀ b u,s.heap.get? b=some u->h'.get? b=some u)(hp:s.heap.objs.size<=a)(new:i80 X.prog X.w (upd H a o) h' a o) :
  Inv X pins σ (upd H a o) { s with heap:=h',toks:=t' }:=I.un (Un.laid k hp (I.hok.fresh hp)) (I.hok.laid k hp new)
theorem Inv.write{x e:È}{o:HO}{t':Nat}(I:Inv X pins σ H s)(mu:Mut (H x))(he:e=x∨H e=some (.own x))(k:∀ b u,b≠e->s.heap.get? b=some u->h'.get? b=some u)(heo:∃ u,h'.get? e=some u)
  (new:i80 X.prog X.w (upd H x o) h' x o):Inv X pins σ (upd H x o) { s with heap:=h',toks:=t' }:=I.un (Un.write mu he k heo) (I.hok.write mu he k heo new)
theorem Inv.C90{pins':List (È × Obj)}(I:Inv X pins σ H s)(h:∀ p∈pins',s.heap.get? p.1=some p.2/\H p.1=none/\p.1≠X.env.locals/\p.1 ∉ X.fs/\∀ v,p.2.data≠.cell v):Inv X pins' σ H s :=
 ⟨I.ok,I.os,I.bare,I.base,I.loc,I.cell,I.free,I.freeC,λp hp=>(Á0.mp hp).elim (λz=>I.pin p (Ì3 _ z)) (h p),I.hok,I.len⟩
theorem a91{N:List Str}(hN:N.Nodup){i j:Nat}{x:Str}(a:N[i]?=some x)(b:N[j]?=some x):i=j:=by
 obtain⟨h1,e1⟩:=ä.mp a;obtain⟨h2,e2⟩:=ä.mp b;exact(List.getElem_inj hN).mp (e1.trans e2.symm)
theorem P80{M:Model}{A:À3}{E:Ä->Æ->Prop}{i:Nat}{x:Str}{v:V}{u:Ä}{Q:Unit->Æ->Prop}(I:Inv X pins σ H s)(hN:X.N.Nodup)(hi:X.N[i]?=some x)(hx:Loc X.env.scope x)(r:RelV v u)
  (h:∀ s',Inv X pins (σ.set i (some v)) H s'->(∃ a,Ý0 a s.heap s'.heap/\(a=X.env.locals∨X.env.cells.lookup x=some a))->Q () s') (hf:X.fn x=true∨X.env.scope.names.lookup x=some .local:=by first | exact .inl rfl | exact .inr rfl | assumption):Ñ M A (storeName X.env x u) Q E s:=by
 obtain⟨m,hn,hl⟩:=id I.loc;have hcls:(X.env.scope.kind == .class || (X.env.scope.kind == .module&&X.env.locals != X.env.globals))=false:=by rw[I.ok.kind];rfl
 have hiσ:i < σ.length:=by rw[I.len];exact(ä.mp hi).1
 have cne:=I.cne;have tracked:∀ {a:È}{h':õ},(∃ o,s.heap.get? a=some o/\H a=none)->Ý0 a s.heap h'->HOk X.prog X.w H h':=λ{a h'} ha hs b ob e=>by
  obtain⟨_,_,hfree⟩:=ha;refine(I.hok b ob e).C71 (λc w' hc q=>(hs.2 c ?_).trans q) (λ_ q=>q) λ_ _ q=>q;rintro rfl;rcases hc with rfl | hc
  ·rw[hfree] at e;cases e
  ·rw[hfree] at hc;cases hc
 rcases hx with hk | hk
 ·refine wpAny_storeName_local hk hn (λh' hn' hs=>?_) hcls;obtain⟨oL,_,_,hoL,_⟩:=id hn;refine h _ ⟨I.ok,I.os,I.bare,⟨λb o e n hb hx=>?_,λb o e n hb hx=>?_,I.base.free,λb o e hx=>?_,I.base.tups,I.base.frzs,I.base.tbls⟩,⟨_,hn',λj y v' e1 e2 e3=>?_⟩,λy c e=>?_,I.free,I.freeC,λp hp=>?_,tracked ⟨oL,hoL,I.free⟩ hs,by simpa using I.len⟩ ⟨_,hs,.inl rfl⟩
  ·exact(hs.2 b (ê (à (â e) I.ok.above))).trans (I.base.keep b o e n hb hx)
  ·obtain⟨sl,e1⟩:=I.base.slot b o e n hb hx;exact⟨sl,(hs.2 b (ê (à (â e) I.ok.above))).trans e1⟩
  ·obtain⟨o',e1⟩:=I.base.there b o e hx;exact⟨o',(hs.2 b (ê (à (â e) I.ok.above))).trans e1⟩
  ·by_cases hj:j=i
   ·subst hj;rw[hi] at e1;cases e1;rw[Ý hiσ] at e2;cases e2;exact⟨u,r,.inl ⟨hk,by simp⟩⟩
   ·rw[Õ (À6 hj)] at e2;obtain⟨u',r',q⟩:=hl j y v' e1 e2 e3;refine⟨u',r',?_⟩;rcases q with ⟨k,e⟩ | ⟨k,c,e,z⟩
    ·refine .inl ⟨k,?_⟩;have:y≠x:=λe=>hj (a91 hN e1 (e ▸ hi));simp[this,e]
    ·exact .inr ⟨k,c,e,z.sameBut hs (cne y c e)⟩
  ·obtain⟨w',z⟩:=I.cell y c e;exact⟨w',z.sameBut hs (cne y c e)⟩
  ·obtain⟨e,n,ne,nf,d⟩:=I.pin p hp;exact⟨(hs.2 p.1 ne).trans e,n,ne,nf,d⟩
 ·have hfn:X.fn x=true:=by
   rcases hf with z | z
   ·exact z
   ·rw[z] at hk;cases hk
  obtain⟨c,hc⟩:=I.ok.has x (.inl hk);obtain⟨w',z⟩:=I.cell x c hc;refine wpAny_storeName_cell I.ok.kind hk hc z (λh' hc' hs=>?_);obtain⟨oc,hoc,hocd⟩:=id z;refine h { s with heap:=h' } ⟨I.ok,I.os,I.bare,⟨λb o e n hb hx=>?_,λb o e n hb hx=>?_,I.base.free,λb o e hx=>?_,I.base.tups,I.base.frzs,I.base.tbls⟩,⟨m,hn.sameBut hs (À6 (cne x c hc)),λj y v' e1 e2 e3=>?_⟩,λy c' e=>?_,I.free,I.freeC,λp hp=>?_,tracked ⟨oc,hoc,I.freeC x c hc⟩ hs,by simpa using I.len⟩ ⟨c,hs,.inr hc⟩
  ·exact(hs.2 b (ê (à (â e) (I.ok.cab x c hfn hc)))).trans (I.base.keep b o e n hb hx)
  ·obtain⟨sl,e1⟩:=I.base.slot b o e n hb hx;exact⟨sl,(hs.2 b (ê (à (â e) (I.ok.cab x c hfn hc)))).trans e1⟩
  ·obtain⟨o',e1⟩:=I.base.there b o e hx;exact⟨o',(hs.2 b (ê (à (â e) (I.ok.cab x c hfn hc)))).trans e1⟩
  ·by_cases hj:j=i
   ·subst hj;rw[hi] at e1;cases e1;rw[Ý hiσ] at e2;cases e2;exact⟨u,r,.inr ⟨.inl hk,c,hc,hc'⟩⟩
   ·rw[Õ (À6 hj)] at e2;obtain⟨u',r',q⟩:=hl j y v' e1 e2 e3;refine⟨u',r',?_⟩;rcases q with q | ⟨k,c',e,z'⟩
    ·exact .inl q
    ·refine .inr ⟨k,c',e,z'.sameBut hs ?_⟩;rintro rfl;exact hj (a91 hN e1 (I.ok.inj _ _ _ e hc ▸ hi))
  ·by_cases hcc:c'=c
   ·subst hcc;exact⟨_,hc'⟩
   ·obtain⟨w2,z2⟩:=I.cell y c' e;exact⟨w2,z2.sameBut hs hcc⟩
  ·obtain⟨e,n,ne,nf,d⟩:=I.pin p hp;refine⟨(hs.2 p.1 ?_).trans e,n,ne,nf,d⟩;intro q;rw[q,hoc] at e;have q':oc=p.2:=À1 e;exact d w' (by rw[← q'];exact hocd)
theorem u80{M:Model}{A:À3}{E:Ä->Æ->Prop}{i:Nat}{x:Str}{v:V}{u:Ä}{Q:Unit->Æ->Prop}(I:Inv X pins σ H s)(hN:X.N.Nodup)(hi:X.N[i]?=some x)(hx:Loc X.env.scope x)(r:RelV v u)
  (h:∀ s',Inv X pins (σ.set i (some v)) H s'->Q () s') (hf:X.fn x=true∨X.env.scope.names.lookup x=some .local:=by first | exact .inl rfl | exact .inr rfl | assumption):Ñ M A (storeName X.env x u) Q E s :=
 P80 I hN hi hx r (λs' I' _=>h s' I') hf
theorem Inv.t12{s':Æ}{ch:List È}(I:Inv X pins σ H s)(ho:s'.os=s.os)(u:Un (frs X.stack) ch H H' s.heap s'.heap)(hok:HOk X.prog X.w H' s'.heap)(hg:Ò9 s'.gens)
  (hch:∀ b∈ch,(b∈X.ex∨X.s₀.heap.objs.size<=b)/\b≠X.env.locals/\(∀ x c,X.env.cells.lookup x=some c->c≠b)/\∀ p∈X.pn++pins,p.1≠b):Inv X pins σ H' s':=by
 obtain⟨h',g',d',t',o'⟩:=s';have e:o'=s.os:=ho;subst e;exact I.call (g':=g') (t':=t') (d':=d') u hok hg hch
end
abbrev XK:=Ä->Option È->Hp->Prop
abbrev St:=List (Option V)
abbrev VK:=V->Hp->Prop
abbrev TE:=St->Hp->VK->Prop
abbrev TT:=St->Hp->(Bool->Hp->Prop)->Prop
abbrev TA:=St->Hp->(List V->Hp->Prop)->Prop
structure Ends where
 nx:St->Hp->Prop
 rt:VK
 bk:St->Hp->Prop:=λ_ _=>False
 ct:St->Hp->Prop:=λ_ _=>False
abbrev TS:=Ends->St->Hp->Prop
def EP(X:Cx)(pins:List (È × Obj))(σ:St)(Q:VK)(u:Ä)(s':Æ):Prop:=∃ v H',Inv X pins σ H' s'/\RelV v u/\Q v H'
def TP(X:Cx)(pins:List (È × Obj))(σ:St)(Q:Bool->Hp->Prop)(b:Bool)(s':Æ):Prop:=∃ H',Inv X pins σ H' s'/\Q b H'
def AP(X:Cx)(pins:List (È × Obj))(σ:St)(Q:List V->Hp->Prop)(us:List Ä)(s':Æ):Prop:=∃ vs H',Inv X pins σ H' s'/\Vals vs us/\Q vs H'
def SP(X:Cx)(pins:List (È × Obj))(D:Ends)(f:Flow)(s':Æ):Prop :=
 match f with
 |.next=>∃ σ' H',Inv X pins σ' H' s'/\D.nx σ' H'
 |.brk=>∃ σ' H',Inv X pins σ' H' s'/\D.bk σ' H'|.cont=>∃ σ' H',Inv X pins σ' H' s'/\D.ct σ' H'|.ret u=>∃ v σ' H',Inv X pins σ' H' s'/\RelV v u/\D.rt v H'
def PE(X:Cx)(e:Ð)(t:TE):Prop :=
 ∀ (pins:List (È × Obj)) (s:Æ) (σ:St) (H:Hp) (Q:VK),Inv X pins σ H s->t σ H Q->Ñ (Ü X.prog X.w) X.A (eval e X.env) (EP X pins σ Q) X.xe s
def PT(X:Cx)(e:Ð)(t:TT):Prop :=
 ∀ (pins:List (È × Obj)) (s:Æ) (σ:St) (H:Hp) (Q:Bool->Hp->Prop),Inv X pins σ H s->t σ H Q->Ñ (Ü X.prog X.w) X.A (isTrue e X.env (eval e X.env)) (TP X pins σ Q) X.xe s
def PW(X:Cx)(e:Ð)(t:TT):Prop :=
 ∀ (whole:Sem Ä) (pins:List (È × Obj)) (s:Æ) (σ:St) (H:Hp) (Q:Bool->Hp->Prop),Inv X pins σ H s->t σ H Q->Ñ (Ü X.prog X.w) X.A (isTrue e X.env whole) (TP X pins σ Q) X.xe s
theorem PW.pt{X:Cx}{e:Ð}{t:TT}(h:PW X e t):PT X e t:=h _
def PA(X:Cx)(es:List Ð)(t:TA):Prop :=
 ∀ (pos:Pos) (pins:List (È × Obj)) (s:Æ) (σ:St) (H:Hp) (Q:List V->Hp->Prop),Inv X pins σ H s->t σ H Q->Ñ (Ü X.prog X.w) X.A (spliced (Ò7 pos (ý es X.env))) (AP X pins σ Q) X.xe s
def PS(X:Cx)(st:Ã9)(t:TS):Prop :=
 ∀ (pins:List (È × Obj)) (s:Æ) (σ:St) (H:Hp) (D:Ends),Inv X pins σ H s->t D σ H->Ñ (Ü X.prog X.w) X.A (exec st X.env) (SP X pins D) X.xe s
def PSs(X:Cx)(st:List Ã9)(t:TS):Prop :=
 ∀ (pins:List (È × Obj)) (s:Æ) (σ:St) (H:Hp) (D:Ends),Inv X pins σ H s->t D σ H->Ñ (Ü X.prog X.w) X.A (execs st X.env) (SP X pins D) X.xe s
theorem thn{α:Type}{t:Sem α}{Q Q':α->Æ->Prop}{M:Model}{A:À3}{E:Ä->Æ->Prop}{s:Æ}(h:Ñ M A t Q E s)(hQ:∀ a s,Q a s->Q' a s):Ñ M A t Q' E s:=Ä4 h hQ λ_ _ x=>x
section
variable {X:Cx}
def Q41(i:Nat):TE:=λσ H Q=>∃ v,σ[i]?=some (some v)/\Q v H
def tC(v:V):TE:=λ_ H Q=>Q v H
theorem n80{i:Nat}{x:Str}{pos:Pos}(hN:X.N[i]?=some x)(hv:Vis X.env.scope x)(hd:(x == ("__debug__":Str))=false:=by decide)(hcd:(x == ("__classdict__":Str))=false:=by decide):PE X (.Name x pos) (Q41 i):=by
 intro pins s σ H Q I h;obtain⟨v,e,h⟩:=h;obtain⟨m,hn,hl⟩:=I.loc;obtain⟨u,r,l⟩:=hl i x v hN e hv;have fin:EP X pins σ Q u s:=⟨v,H,I,r,h⟩;rcases l with ⟨hk,hm⟩ | ⟨hk,c,hc,hcell⟩
 ·exact wpAny_Name (wpAny_loadName_local I.ok.kind hk hn hm fin) hd
 ·rcases hk with hk | hk
  ·exact wpAny_Name (wpAny_loadName_cell I.ok.kind hk hc hcell fin) hd
  ·exact wpAny_Name (wpAny_loadName_free I.ok.kind hk hc hcell fin hcd) hd
theorem n01{i j pos}:PE X (.Constant (.int i) j pos) (tC (.int i)):=λ_ _ _ H _ I h=>wpAny_Constant_int ⟨.int i,H,I.tok _,⟨_,rfl⟩,h⟩
theorem t22{b j pos}:PE X (.Constant (.bool b) j pos) (tC (.bl b)):=λ_ _ _ H _ I h=>Constant_bool ⟨.bl b,H,I,rfl,h⟩
theorem d22{j pos}:PE X (.Constant .none j pos) (tC .non):=λ_ _ _ H _ I h=>Constant_none ⟨.non,H,I,rfl,h⟩
theorem L91{x j pos}:PE X (.Constant (.str x) j pos) (tC (.str x)):=λ_ _ _ H _ I h=>Calls.Constant_str ⟨.str x,H,I.tok _,⟨_,rfl⟩,h⟩
def Gl(X:Cx)(x:Str):Prop:=X.env.kindOf x=some .globalImplicit
theorem W50{E:Ä->Æ->Prop}{pins:List (È × Obj)}{s:Æ}{σ:St}{H:Hp}{x:Str}{u:Ä}{pos:Pos}{Q:Ä->Æ->Prop}(I:Inv X pins σ H s)(hg:Gl X x)(hm:X.mg x=some u)(h:Q u s)
  (hd:(x == ("__debug__":Str))=false:=by decide):Ñ (Ü X.prog X.w) X.A (eval (.Name x pos) X.env) Q E s :=
 Ú7 I.ok.kind hg (Calls.loadGlobal_global (by rw[I.ok.glob];exact I.mod.glob.keeps I.bk) hm h) hd
theorem u90{E:Ä->Æ->Prop}{pins:List (È × Obj)}{s:Æ}{σ:St}{H:Hp}{x:Str}{u:Ä}{pos:Pos}{Q:Ä->Æ->Prop}(I:Inv X pins σ H s)(hg:Gl X x)(hm:X.mg x=none)(hv:í x=some u)(h:Q u s)
  (hn:x≠"__name__":=by decide) (hd:(x == ("__debug__":Str))=false:=by decide):Ñ (Ü X.prog X.w) X.A (eval (.Name x pos) X.env) Q E s:=by
 obtain⟨mb,h1,h2⟩:=I.mod.blt;exact Ú7 I.ok.kind hg (Calls.loadGlobal_builtin (by rw[I.ok.glob];exact I.mod.glob.keeps I.bk) hm (by rw[I.ok.blt];exact h1.keeps I.bk) ((h2 x hn).trans hv) h) hd
theorem Q51{x:Str}{v:V}{u:Ä}{pos:Pos}(hg:Gl X x)(hm:X.mg x=some u)(r:RelV v u)(hd:(x == ("__debug__":Str))=false:=by decide):PE X (.Name x pos) (tC v) :=
 λ_ _ _ H _ I h=>W50 I hg hm ⟨v,H,I,r,h⟩ hd
theorem W60{x:Str}{v:V}{u:Ä}{pos:Pos}(hg:Gl X x)(hm:X.mg x=none)(hv:í x=some u)(r:RelV v u)(hn:x≠"__name__":=by decide)(hd:(x == ("__debug__":Str))=false:=by decide):PE X (.Name x pos) (tC v) :=
 λ_ _ _ H _ I h=>u90 I hg hm hv ⟨v,H,I,r,h⟩ hn hd
variable {a b:Ð}{ta tb:TE}{pos:Pos}
def tB(t:TE):TT:=λσ H Q=>t σ H λx H1=>∃ c,x=.bl c/\Q c H1
theorem d32{e:Ð}{t:TE}(h:PE X e t)(he:∀ whole,isTrue e X.env whole=(do let v ← whole;standAt e.pos;holding [v] (truthy v)):=by intro _;rfl):PT X e (tB t):=by
 intro pins s σ H Q I hw;refine isTrue_plain (thn (h pins s σ H _ I hw) λv s1 ⟨x,H1,I1,r1,q1⟩=>?_) (he _);obtain⟨d,rfl,q⟩:=q1;cases r1;exact Á8 ⟨H1,I1,q⟩
variable {tA tB':TT}{rest:List Ð}
def I72(t u:TT):TT:=λσ H Q=>t σ H λc H1=>if c=true then u σ H1 Q else Q false H1
def tOr(t u:TT):TT:=λσ H Q=>t σ H λc H1=>if c=true then Q true H1 else u σ H1 Q
def I82(t:TT):TT:=λσ H Q=>t σ H λc H1=>Q (!c) H1
theorem Q61(ha:PT X a tA):PW X (.BoolOp .And [a] pos) tA:=by
 intro wh pins s σ H Q I h;refine isTrue_and (thn (ha pins s σ H Q I h) λc s1 e=>?_);cases c with
 |true=>exact isTrue_and_nil e|false=>exact e
theorem d42(ha:PT X a tA):PW X (.BoolOp .Or [a] pos) tA:=by
 intro wh pins s σ H Q I h;refine isTrue_or (thn (ha pins s σ H Q I h) λc s1 e=>?_);cases c with
 |false=>exact isTrue_or_nil e|true=>exact e
theorem d52(ha:PT X a tA)(hb:PW X (.BoolOp .And (b::rest) pos) tB'):PW X (.BoolOp .And (a::b::rest) pos) (I72 tA tB'):=by
 intro wh pins s σ H Q I h;refine isTrue_and (thn (ha pins s σ H _ I h) λc s1 ⟨H1,I1,q1⟩=>?_);cases c with
 |true=>exact hb wh pins s1 σ H1 Q I1 q1|false=>exact⟨H1,I1,q1⟩
theorem t32(ha:PT X a tA)(hb:PW X (.BoolOp .Or (b::rest) pos) tB'):PW X (.BoolOp .Or (a::b::rest) pos) (tOr tA tB'):=by
 intro wh pins s σ H Q I h;refine isTrue_or (thn (ha pins s σ H _ I h) λc s1 ⟨H1,I1,q1⟩=>?_);cases c with
 |true=>exact⟨H1,I1,q1⟩|false=>exact hb wh pins s1 σ H1 Q I1 q1
theorem d62(ha:PT X a tA):PT X (.UnaryOp .Not a pos) (I82 tA):=by
 intro pins s σ H Q I h;exact isTrue_not (ha pins s σ H (λc H1=>Q (!c) H1) I h)
def t42(ta tb:TE):TE:=λσ H Q=>ta σ H λx H1=>∃ c,x=.bl c/\if c=true then tb σ H1 Q else Q (.bl false) H1
def I92(ta tb:TE):TE:=λσ H Q=>ta σ H λx H1=>∃ c,x=.bl c/\if c=true then Q (.bl true) H1 else tb σ H1 Q
def t52(ta:TE):TE:=λσ H Q=>ta σ H λx H1=>∃ c,x=.bl c/\Q (.bl (!c)) H1
theorem d72{op}{t:TE}(h:PE X a t):PE X (.BoolOp op [a] pos) t:=λpins s σ H Q I hw=>BoolOp_one (h pins s σ H Q I hw)
theorem d82(ha:PE X a ta)(hb:PE X (.BoolOp .And (b::rest) pos) tb):PE X (.BoolOp .And (a::b::rest) pos) (t42 ta tb):=by
 intro pins s σ H Q I h;refine BoolOp_and (thn (ha pins s σ H _ I h) λv s1 ⟨x,H1,I1,r1,q1⟩=>?_);obtain⟨c,rfl,q1⟩:=q1;cases r1;refine Á8 ?_;cases c with
 |true=>exact hb pins s1 σ H1 Q I1 q1|false=>exact⟨.bl false,H1,I1,rfl,q1⟩
theorem t62(ha:PE X a ta)(hb:PE X (.BoolOp .Or (b::rest) pos) tb):PE X (.BoolOp .Or (a::b::rest) pos) (I92 ta tb):=by
 intro pins s σ H Q I h;refine BoolOp_or (thn (ha pins s σ H _ I h) λv s1 ⟨x,H1,I1,r1,q1⟩=>?_);obtain⟨c,rfl,q1⟩:=q1;cases r1;refine Á8 ?_;cases c with
 |false=>exact hb pins s1 σ H1 Q I1 q1|true=>exact⟨.bl true,H1,I1,rfl,q1⟩
theorem d92(ha:PE X a ta):PE X (.UnaryOp .Not a pos) (t52 ta):=by
 intro pins s σ H Q I h;refine UnaryOp_ (thn (ha pins s σ H _ I h) λv s1 ⟨x,H1,I1,r1,q1⟩=>?_);obtain⟨c,rfl,q1⟩:=q1;cases r1;exact not_of (Á8 ⟨.bl (!c),H1,I1,rfl,q1⟩)
def tIf(t:TT)(ta tb:TE):TE:=λσ H Q=>t σ H λc H1=>if c=true then ta σ H1 Q else tb σ H1 Q
theorem C91{c:Ð}(hc:PT X c tA)(ha:PE X a ta)(hb:PE X b tb):PE X (.IfExp c a b pos) (tIf tA ta tb):=by
 intro pins s σ H Q I h;refine wpAny_IfExp (thn (hc pins s σ H _ I h) λd s1 ⟨H1,I1,q1⟩=>?_);cases d with
 |true=>exact ha pins s1 σ H1 Q I1 q1|false=>exact hb pins s1 σ H1 Q I1 q1
end
def SqL(K:Â)(H:Hp)(a:È)(xs:List V):Prop :=
 Rd H a (.lst xs) ∨
  ∃ (o:Obj) (its:Array Ä) (n:Nat),K.lookup a=some o/\o.cls=.type "list"/\o.dict=none/\o.data=.seq its n/\its.size<=sizeLine/\Vals xs its.toList
def SqT(K:Â)(H:Hp)(a:È)(xs:List V):Prop :=
 Rd H a (.tup xs) ∨
  ∃ (o:Obj) (its:Array Ä) (n:Nat),K.lookup a=some o/\o.cls=.type "tuple"/\o.data=.seq its n/\its.size<=sizeLine/\Vals xs its.toList
def J02:Ä->Option V
 |.none=>some .non|.bool b=>some (.bl b)|.int i _=>some (.int i)|.str x _=>some (.str x)|.bytes b _=>some (.byt b)|.float b _=>some (.flt b)|.ref a=>some (.ref a)|.type n=>some (.ty n)|_=>none
theorem RelV.abs{x:V}{u:Ä}(r:RelV x u):J02 u=some x:=by
 cases x with
 |non=>cases r;rfl
 |bl _=>cases r;rfl
 |int _=>obtain⟨t,rfl⟩:=r;rfl
 |str _=>obtain⟨t,rfl⟩:=r;rfl
 |byt _=>obtain⟨t,rfl⟩:=r;rfl
 |flt _=>obtain⟨t,rfl⟩:=r;rfl
 |ref _=>cases r;rfl
 |ty _=>cases r;rfl
theorem RelV.inj{x y:V}{u:Ä}(r:RelV x u)(q:RelV y u):x=y:=À1 (r.abs.symm.trans q.abs)
theorem Vals.inj:∀ {xs ys:List V}{us:List Ä},Vals xs us->Vals ys us->xs=ys
 |_,_,_,.nil,.nil=>rfl|_,_,_,.cons r t,.cons r' t'=>by rw[r.inj r',Vals.inj t t']
section
variable {X:Cx}{pins:List (È × Obj)}{σ:St}{H:Hp}{s:Æ}{a:È}{xs ys:List V}
theorem SqL.of{K:Â}(h:H a=some (.lst xs)):SqL K H a xs:=.inl (.inl h)
theorem SqT.of{K:Â}(h:H a=some (.tup xs)):SqT K H a xs:=.inl (.inl h)
theorem Inv.list(I:Inv X pins σ H s)(h:SqL X.K H a xs):∃ its:List Ä,Vals xs its/\PlainL s.heap a its.toArray/\xs.length<=sizeLine:=by
 rcases h with h | ⟨o,its,n,hk,hc,hd,hs,hz,r⟩
 ·obtain⟨z,its,n,r,e⟩:=h.ok I.hok;exact⟨its,r,⟨_,n,e,rfl,rfl,rfl⟩,z⟩
 ·refine⟨its.toList,r,⟨o,n,I.kIn a o hk,hc,hd,by simpa using hs⟩,?_⟩
  have e:=r.length;simp only[È6] at e;omega
theorem Inv.tuple(I:Inv X pins σ H s)(h:SqT X.K H a xs):∃ its:List Ä,Vals xs its/\Í0 s.heap a its.toArray/\xs.length<=sizeLine:=by
 rcases h with h | ⟨o,its,n,hk,hc,hs,hz,r⟩
 ·obtain⟨z,its,r,p⟩:=h.ok I.hok;exact⟨its,r,p,z⟩
 ·refine⟨its.toList,r,⟨o,I.kIn a o hk,hc,n,by simpa using hs⟩,?_⟩
  have e:=r.length;simp only[È6] at e;omega
theorem Inv.b01(I:Inv X pins σ H s)(h:SqL X.K H a xs)(h':SqL X.K H a ys):xs=ys:=by
 obtain⟨its,r,⟨o,n,e,_,_,d⟩,_⟩:=I.list h;obtain⟨its',r',⟨o',n',e',_,_,d'⟩,_⟩:=I.list h';rw[e] at e';cases e';rw[d] at d';injection d' with d1 _;have:its=its':=by simpa using congrArg toList d1
 subst this;exact r.inj r'
theorem Inv.P90(I:Inv X pins σ H s)(h:SqT X.K H a xs)(h':SqT X.K H a ys):xs=ys:=by
 obtain⟨its,r,⟨o,e,_,n,d⟩,_⟩:=I.tuple h;obtain⟨its',r',⟨o',e',_,n',d'⟩,_⟩:=I.tuple h';rw[e] at e';cases e';rw[d] at d';injection d' with d1 _;have:its=its':=by simpa using congrArg toList d1
 subst this;exact r.inj r'
end
section
variable {X:Cx}{st:Ã9}{rest:List Ã9}{t u:TS}{e:Ð}{te:TE}{pos:Pos}
def t72:TS:=λD σ H=>D.nx σ H
def J12(t u:TS):TS:=λD σ H=>t { D with nx:=u D } σ H
theorem Q71:PSs X [] t72:=λ_ _ σ H _ I h=>Ó0 ⟨σ,H,I,h⟩
theorem I90(h1:PS X st t)(h2:PSs X rest u):PSs X (st::rest) (J12 t u):=by
 intro pins s σ H D I h;refine wpAny_execs_cons (thn (h1 pins s σ H { D with nx:=u D } I h) λf s1 q=>?_);cases f with
 |next =>
  obtain⟨σ',H',I',q⟩:=q;exact h2 pins s1 σ' H' D I' q
 |ret v=>exact q|brk=>exact q|cont=>exact q
theorem n11(h1:PS X st t):PSs X [st] t:=by
 intro pins s σ H D I h;refine wpAny_execs_cons (thn (h1 pins s σ H D I h) λf s1 q=>?_);cases f with
 |next=>exact Ó0 q
 |ret v=>exact q|brk=>exact q|cont=>exact q
theorem Inv.quiet{pins:List (È × Obj)}{σ:St}{H:Hp}{s:Æ}(I:Inv X pins σ H s):interactive X.env=false:=by simp[interactive,I.ok.kind]
def t82(te:TE):TS:=λD σ H=>te σ H λ_ H1=>D.nx σ H1
theorem W70(he:PE X e te)(hs:Ñ4 e none pos.line X.env=pure false:=by rfl):PS X (.Expr e pos) (t82 te):=by
 intro pins s σ H D I h;exact wpAny_Expr_any (thn (he pins s σ H _ I h) λv s1 ⟨x,H1,I1,r1,q1⟩=>⟨σ,H1,I1,q1⟩) I.quiet hs
def J22(te:TE):TS:=λD σ H=>te σ H D.rt
theorem n21(he:PE X e te):PS X (.Return (some e) pos) (J22 te):=by
 intro pins s σ H D I h;exact wpAny_Return_some (thn (he pins s σ H _ I h) λv s1 ⟨x,H1,I1,r1,q1⟩=>⟨x,σ,H1,I1,r1,q1⟩)
def t92:TS:=λD _ H=>D.rt .non H
theorem Q81:PS X (.Return none pos) t92:=λ_ _ σ H _ I h=>wpAny_Return_none ⟨.non,σ,H,I,rfl,h⟩
def J32(c:TT)(t u:TS):TS:=λD σ H=>c σ H λb H1=>if b=true then t D σ H1 else u D σ H1
theorem u02{c:Ð}{a b:List Ã9}{tc:TT}(hc:PT X c tc)(ha:PSs X a t)(hb:PSs X b u):PS X (.If c a b pos) (J32 tc t u):=by
 intro pins s σ H D I h;refine wpAny_If (thn (hc pins s σ H _ I h) λd s1 ⟨H1,I1,q1⟩=>?_);cases d with
 |true=>exact ha pins s1 σ H1 D I1 q1|false=>exact hb pins s1 σ H1 D I1 q1
end
abbrev TG:=V->St->Hp->(St->Hp->Prop)->Prop
abbrev TGs:=List V->St->Hp->(St->Hp->Prop)->Prop
def PG(X:Cx)(target:Ð)(t:TG):Prop :=
 ∀ (pins:List (È × Obj)) (s:Æ) (σ:St) (H:Hp) (v:V) (u:Ä) (Q:St->Hp->Prop),Inv X pins σ H s->RelV v u->t v σ H Q ->
  Ñ (Ü X.prog X.w) X.A (Õ1 target X.env u) (λ_ s'=>∃ σ' H',Inv X pins σ' H' s'/\Q σ' H') X.xe s
def PGs(X:Cx)(ts:List Ð)(t:TGs):Prop :=
 ∀ (pins:List (È × Obj)) (s:Æ) (σ:St) (H:Hp) (vs:List V) (us:List Ä) (Q:St->Hp->Prop),Inv X pins σ H s->Vals vs us->t vs σ H Q ->
  Ñ (Ü X.prog X.w) X.A (assignInOrder ((È2 ts X.env).map (·.2)) us) (λ_ s'=>∃ σ' H',Inv X pins σ' H' s'/\Q σ' H') X.xe s
abbrev e02:=V->V->V->Hp->(Hp->Prop)->Prop
def u12(X:Cx)(t:e02):Prop :=
 ∀ (pins:List (È × Obj)) (s:Æ) (σ:St) (H:Hp) (o i v:V) (ov iv u:Ä) (Q:Hp->Prop),Inv X pins σ H s->RelV o ov->RelV i iv->RelV v u->t o i v H Q ->
  Ñ (Ü X.prog X.w) X.A (setItem ov iv u) (λ_ s'=>∃ H',Inv X pins σ H' s'/\Q H') X.xe s
abbrev TIp:=V->V->Hp->VK->Prop
def PIp(X:Cx)(op:Ì9)(t:TIp):Prop :=
 ∀ (pins:List (È × Obj)) (s:Æ) (σ:St) (H:Hp) (x y:V) (v u:Ä) (Q:VK),Inv X pins σ H s->RelV x v->RelV y u->t x y H Q ->
  Ñ (Ü X.prog X.w) X.A (inplaceOp op v u) (EP X pins σ Q) X.xe s
section
variable {X:Cx}{pos:Pos}
def Q00(i:Nat):TG:=λv σ H Q=>Q (σ.set i (some v)) H
theorem n31{i:Nat}{x:Str}(hN:X.N.Nodup)(hi:X.N[i]?=some x)(hx:Loc X.env.scope x)(hf:X.fn x=true∨X.env.scope.names.lookup x=some .local:=by first | exact .inl rfl | exact .inr rfl | assumption):PG X (.Name x pos) (Q00 i):=by
 intro pins s σ H v u Q I r h;exact wpAny_assign_Name (u80 I hN hi hx r (λs' I'=>⟨_,H,I',h⟩) hf)
def F02:TGs:=λvs σ H Q=>vs=[]/\Q σ H
def e12(t:TG)(u:TGs):TGs:=λvs σ H Q=>∃ v r,vs=v::r/\t v σ H λσ' H'=>u r σ' H' Q
theorem Q91:PGs X [] F02:=by
 intro pins s σ H vs us Q I r h;obtain⟨e,h⟩:=h;subst e;cases r;exact assignInOrder_nil ⟨σ,H,I,h⟩
theorem D01{e:Ð}{es:List Ð}{t:TG}{u:TGs}(h1:PG X e t)(h2:PGs X es u)
  (hs:(È2 (e::es) X.env).map (·.2)=Õ1 e X.env::(È2 es X.env).map (·.2):=by rfl):PGs X (e::es) (e12 t u):=by
 intro pins s σ H vs us Q I r h;obtain⟨v,vr,e1,h⟩:=h;subst e1;cases r with
 |cons r rr =>
  rw[hs];refine Ø5 (thn (h1 pins s σ H _ _ _ I r h) λ_ s1 ⟨σ1,H1,I1,q1⟩=>?_);exact h2 pins s1 σ1 H1 _ _ Q I1 rr q1
def F12(K:Â)(n:Nat)(t:TGs):TG:=λv σ H Q=>∃ a xs,v=.ref a/\SqT K H a xs/\xs.length=n/\t xs σ H Q
theorem e22{es:List Ð}{k:Nat}{t:TGs}{n:Nat}(hc:X.calm=true)(h:PGs X es t)
  (hn:(È2 es X.env).length=n:=by rfl) (hst:(È2 es X.env).findIdx? (·.1)=none:=by rfl):PG X (.Tuple es k pos) (F12 X.K n t):=by
 intro pins s σ H v u Q I r hw;obtain⟨a,xs,e1,hq,hl,hw⟩:=hw;subst e1;cases r;obtain⟨its,rv,ht,hz⟩:=I.tuple hq;refine assign_Tuple_tuple (I.ok.hd hc) ht (by simp[hn,← hl,rv.length]) hst λh' hx=>?_
 have I1:Inv X pins σ H { s with heap:=h' }:=I.kept (t':=s.toks) λb o e=>hx b o (ê (â e)) e;exact h pins _ σ H xs _ Q I1 (by simpa using rv) hw
def J42(to ti:TE)(t:e02):TG:=λv σ H Q=>to σ H λo H1=>ti σ H1 λi H2=>t o i v H2 λH3=>Q σ H3
theorem e32{o i:Ð}{to ti:TE}{t:e02}(ho:PE X o to)(hi:PE X i ti)(hs:u12 X t)
  (ha:∀ v,Õ1 (.Subscript o i pos) X.env v=(do
   let ov ← holding [v] (eval o X.env)
   let iv ← holding [v,ov] (eval i X.env)
   standAt pos
   holding [v,ov,iv] (setItem ov iv v)
   release [v,ov,iv] []):=by intro _;rfl):PG X (.Subscript o i pos) (J42 to ti t):=by
 intro pins s σ H v u Q I r h;rw[ha];refine Á (Ç0 (thn (ho pins s σ H _ I h) λov s1 ⟨x,H1,I1,r1,q1⟩=>?_));refine Á (Ç0 (thn (hi pins s1 σ H1 _ I1 q1) λiv s2 ⟨y,H2,I2,r2,q2⟩=>?_));refine Á (Ö8 (Á (Ç0 (thn (hs pins s2 σ H2 x y v ov iv u _ I2 r1 r2 r q2) λ_ s3 ⟨H3,I3,q3⟩=>?_))));exact wpAny_release ⟨σ,H3,I3,q3⟩
def e42(te:TE)(g:TG):TS:=λD σ H=>te σ H λx H1=>g x σ H1 D.nx
theorem M01{tg e:Ð}{te:TE}{g:TG}(he:PE X e te)(hg:PG X tg g)(hs:swapsWithSole [tg] e pos.line X.env=pure false:=by rfl)(hw:Ã5 [tg] e X.env=pure none:=by rfl)
  (h1:(È2 [tg] X.env).map (·.2)=[Õ1 tg X.env]:=by rfl):PS X (.Assign [tg] e pos) (e42 te g):=by
 intro pins s σ H D I h;refine wpAny_Assign_stores (thn (he pins s σ H _ I h) λv s1 ⟨x,H1,I1,r1,q1⟩=>?_) hs hw;rw[h1];exact thn (hg pins s1 σ H1 x v _ I1 r1 q1) λ_ s2 q=>q
theorem b11{i:Nat}{x:Str}{e:Ð}{te:TE}{pos':Pos}(hN:X.N.Nodup)(hi:X.N[i]?=some x)(hx:Loc X.env.scope x)(he:PE X e te)(hs:Ñ4 e (some (.Name x pos')) pos.line X.env=pure false:=by rfl)(hf:X.fn x=true∨X.env.scope.names.lookup x=some .local:=by first | exact .inl rfl | exact .inr rfl | assumption) :
  PS X (.Assign [.Name x pos'] e pos) (e42 te (Q00 i)):=by
 intro pins s σ H D I h;refine wpAny_Assign_Name (thn (he pins s σ H _ I h) λv s1 ⟨y,H1,I1,r1,q1⟩=>?_) hs;exact u80 I1 hN hi hx r1 (λs2 I2=>⟨_,H1,I2,q1⟩) hf
def J52(i j:Nat)(ta:TA):TS:=λD σ H=>ta σ H λvs H1=>∃ v w,vs=[v,w]/\D.nx ((σ.set i (some v)).set j (some w)) H1
theorem e52{i j:Nat}{x y:Str}{a b:Ð}{ta:TA}{px py pt:Pos}{kt k2 pt2}(hc:X.calm=true)(hN:X.N.Nodup)(hi:X.N[i]?=some x)(hj:X.N[j]?=some y)(hij:i≠j)
  (hx:X.env.scope.names.lookup x=some .local) (hy:X.env.scope.names.lookup y=some .local) (ha:PA X [a,b] ta)
  (hw:Ã5 [.Tuple [.Name x px,.Name y py] kt pt] (.Tuple [a,b] k2 pt2) X.env=pure (some [x,y]))
  (hs:swapsWithSole [.Tuple [.Name x px,.Name y py] kt pt] (.Tuple [a,b] k2 pt2) pos.line X.env=pure false:=by rfl) :
  PS X (.Assign [.Tuple [.Name x px,.Name y py] kt pt] (.Tuple [a,b] k2 pt2) pos) (J52 i j ta):=by
 intro pins s σ H D I h;rw[exec_Assign_arm];refine Á (Ö8 ?_);rw[hs];refine Á (Ê ?_);rw[if_neg (-0)]
 refine Á (Tuple_ (thn (ha _ pins s σ H _ I h) λus s1 ⟨vs,H1,I1,r1,q1⟩=>?_));obtain⟨v,w,e1,q1⟩:=q1;subst e1;obtain⟨u1,u2,rfl,rv,rw'⟩:∃ u1 u2,us=[u1,u2]/\RelV v u1/\RelV w u2:=by
  cases r1 with
  |cons p q =>
   cases q with
   |cons p' q' =>
    cases q';exact⟨_,_,rfl,p,p'⟩
 refine ò ?_ (by show 2<=sizeLine;decide)
 have I2:Inv X pins σ H1 { s1 with heap:=s1.heap.push { cls:=.type "tuple",data:=.seq [u1,u2].toArray } }:=I1.kept (t':=s1.toks) λb o e=>Ã _ e;rw[hw];refine Á (Ê ?_);show Ñ (Ü X.prog X.w) X.A (do rule "assign.swapped-stores";let items ← unpackItems (.ref s1.heap.objs.size) 2 none;assignInOrder [λv=>bindName X.env y v,λv=>bindName X.env x v] items.reverse;pure Flow.next) _ _ _;refine Á (Ï1 (Á (unpackItems_tuple (items:=#[u1,u2]) (I.ok.hd hc) (Í0.new s1.heap _) λh' hx'=>?_)));have I3:=I2.kept (h':=h') (t':=s1.toks) λb o e=>hx' b o (ê (â e)) e;show Ñ _ _ (assignInOrder [λv=>bindName X.env y v,λv=>bindName X.env x v] [u2,u1] >>= λ_=>pure Flow.next) _ _ _;refine Á (Ø5 (wpAny_bindName (u80 I3 hN hj (.inl hy) rw' (λs2 I4=>?_) (.inr hy))));refine Ø5 (wpAny_bindName (u80 I4 hN hi (.inl hx) rv (λs3 I5=>assignInOrder_nil (Ê ?_)) (.inr hx)));rw[List.set_comm _ _ (À6 hij)] at I5;exact⟨_,H1,I5,q1⟩
def J62(i:Nat)(te:TE)(ti:TIp):TS:=λD σ H=>∃ x,σ[i]?=some (some x)/\te σ H λy H1=>ti x y H1 λz H2=>D.nx (σ.set i (some z)) H2
theorem e62{i:Nat}{x:Str}{e:Ð}{te:TE}{op:Ì9}{ti:TIp}{pos':Pos}(hN:X.N.Nodup)(hi:X.N[i]?=some x)(hx:Loc X.env.scope x)(he:PE X e te)(ho:PIp X op ti)(hf:X.fn x=true∨X.env.scope.names.lookup x=some .local:=by first | exact .inl rfl | exact .inr rfl | assumption) :
  PS X (.AugAssign (.Name x pos') op e pos) (J62 i te ti):=by
 intro pins s σ H D I h;obtain⟨v,e1,h⟩:=h;obtain⟨m,hn,hl⟩:=I.loc;have vis:Vis X.env.scope x:=by rcases hx with k | k;exact .inl k;exact .inr (.inl k)
 obtain⟨u,r,l⟩:=hl i x v hi e1 vis;refine wpAny_AugAssign_Name ?_;have go:Ñ (Ü X.prog X.w) X.A (eval e X.env) (λw s₂=>Ñ (Ü X.prog X.w) X.A (inplaceOp op u w) (λr s₃=>Ñ (Ü X.prog X.w) X.A (storeName X.env x r) (λ_=>SP X pins D .next) X.xe s₃) X.xe s₂) X.xe s:=by
  refine thn (he pins s σ H _ I h) λw s1 ⟨y,H1,I1,r1,q1⟩=>?_;refine thn (ho pins s1 σ H1 v y u w _ I1 r r1 q1) λz s2 ⟨zv,H2,I2,r2,q2⟩=>?_;exact u80 I2 hN hi hx r2 (λs3 I3=>⟨_,H2,I3,q2⟩) hf
 rcases l with ⟨hk,hm⟩ | ⟨hk,c,hc,hcell⟩
 ·exact wpAny_loadName_local I.ok.kind hk hn hm go
 ·rcases hk with hk | hk
  ·exact wpAny_loadName_cell I.ok.kind hk hc hcell go
  ·rcases hx with k | k
   ·have:X.env.scope.names.lookup x=some .free:=hk;rw[k] at this;cases this
   ·have:X.env.scope.names.lookup x=some .free:=hk;rw[k] at this;cases this
def u22(to ti te:TE)(tget:V->V->Hp->VK->Prop)(tip:TIp)(tset:e02):TS:=λD σ H=>to σ H λo H1=>ti σ H1 λi H2=>tget o i H2 λx H3=>te σ H3 λy H4=>tip x y H4 λz H5=>tset o i z H5 λH6=>D.nx σ H6
def F22(X:Cx)(t:V->V->Hp->VK->Prop):Prop :=
 ∀ (pins:List (È × Obj)) (s:Æ) (σ:St) (H:Hp) (o i:V) (ov iv:Ä) (Q:VK),Inv X pins σ H s->RelV o ov->RelV i iv->t o i H Q ->
  Ñ (Ü X.prog X.w) X.A (Ð8 ov iv) (EP X pins σ Q) X.xe s
theorem R01{o i e:Ð}{to ti te:TE}{tget:V->V->Hp->VK->Prop}{tip:TIp}{tset:e02}{op:Ì9}{tpos:Pos}(ho:PE X o to)(hi:PE X i ti)(hg:F22 X tget)(he:PE X e te)(hp:PIp X op tip)(hs:u12 X tset)
  (ha:∀ ov iv new,augStore i ov iv new=(do holding [new,ov,iv] (setItem ov iv new);release [new,ov,iv] [];pure .next):=by intros;rfl):PS X (.AugAssign (.Subscript o i tpos) op e pos) (u22 to ti te tget tip tset):=by
 intro pins s σ H D I h;refine wpAny_AugAssign_SubscriptAny (thn (ho pins s σ H _ I h) λov s1 ⟨x1,H1,I1,r1,q1⟩=>?_) ha;refine thn (hi pins s1 σ H1 _ I1 q1) λiv s2 ⟨x2,H2,I2,r2,q2⟩=>?_;refine thn (hg pins s2 σ H2 x1 x2 ov iv _ I2 r1 r2 q2) λold s3 ⟨x3,H3,I3,r3,q3⟩=>?_;refine thn (he pins s3 σ H3 _ I3 q3) λv s4 ⟨x4,H4,I4,r4,q4⟩=>?_;refine thn (hp pins s4 σ H4 x3 x4 old v _ I4 r3 r4 q4) λnew s5 ⟨x5,H5,I5,r5,q5⟩=>?_;exact thn (hs pins s5 σ H5 x1 x2 x5 ov iv new _ I5 r1 r2 r5 q5) λ_ s6 ⟨H6,I6,q6⟩=>⟨σ,H6,I6,q6⟩
def ipI(f:Int->Int->Int):TIp:=λx y H Q=>∃ i j,x=.int i/\y=.int j/\Q (.int (f i j)) H
theorem e72:PIp X .Add (ipI λi j=>i + j):=by
 intro pins s σ H x y v u Q I r1 r2 h;obtain⟨i,j,e1,e2,q⟩:=h;subst e1;subst e2;obtain⟨t,rfl⟩:=r1;obtain⟨t',rfl⟩:=r2;exact iadd_int ⟨.int _,H,I.tok _,⟨_,rfl⟩,q⟩
def e82(c:TT)(tb:TS):TS:=λD σ H=>∃ W:Nat->St->Hp->Prop,(∃ m,W m σ H)/\∀ m σ H,W m σ H ->
 c σ H λb H1=>if b=true then ∃ N:St->Hp->Prop,(∀ σ' H',N σ' H'->∃ m',m' < m/\W m' σ' H')/\tb { D with nx:=N,ct:=N,bk:=D.nx } σ H1 else D.nx σ H1
theorem D11{c:Ð}{body:List Ã9}{tc:TT}{tb:TS}(hp:PassesOwn (Ü X.prog X.w) X.A X.env X.xe)(hc:PT X c tc)(hb:PSs X body tb):PS X (.While c body [] pos) (e82 tc tb):=by
 intro pins s σ H D I h;obtain⟨W,⟨m0,w0⟩,turn⟩:=h;refine wpAny_While (codeAny_whileLoop (λn s'=>∃ σ' H',Inv X pins σ' H' s'/\W n σ' H') ?_ m0 ⟨σ,H,I,w0⟩);rintro n s1 ⟨σ1,H1,I1,w1⟩;refine Æ8 hp (thn (hc pins s1 σ1 H1 _ I1 (turn n σ1 H1 w1)) λb s2 ⟨H2,I2,q2⟩=>?_);cases b with
 |true =>
  obtain⟨N,hN,q2⟩:=q2;rw[if_pos rfl];refine Æ8 hp (thn (hb pins s2 σ1 H2 _ I2 q2) λf s3 q3=>?_);cases f with
  |next =>
   obtain⟨σ3,H3,I3,n3⟩:=q3;obtain⟨m',hm,w3⟩:=hN σ3 H3 n3;exact⟨m',hm,σ3,H3,I3,w3⟩
  |cont =>
   obtain⟨σ3,H3,I3,n3⟩:=q3;obtain⟨m',hm,w3⟩:=hN σ3 H3 n3;exact⟨m',hm,σ3,H3,I3,w3⟩
  |brk=>exact q3|ret v=>exact q3
 |false =>
  rw[if_neg Ó];exact Ó0 ⟨σ1,H2,I2,q2⟩
end
structure It where
 go:Nat->Hp->Prop
 yld:Nat->Hp->V->Hp->Prop
 stop:Nat->Hp->Prop
def b21(X:Cx)(pins:List (È × Obj))(H:Hp)(b:È):Prop :=
 H b=none/\b≠X.env.locals/\b ∉ X.fs/\(b∈X.ex∨X.s₀.heap.objs.size<=b)/\(∀ x c,X.env.cells.lookup x=some c->c≠b)/\∀ p∈X.pn++pins,p.1≠b
theorem Inv.i01{X:Cx}{pins:List (È × Obj)}{σ:St}{H H':Hp}{s:Æ}{b:È}(I:Inv X pins σ H s)(hb:s.heap.objs.size<=b)(hn:H' b=none):b21 X pins H' b:=by
 refine⟨hn,Ó2 (à I.lt hb),I.I62 hb,.inr (Ù I.sz hb),λx c e z=>?_,λp hp z=>?_⟩
 ·obtain⟨v,q⟩:=I.cell x c e;exact absurd (à q.lt (by rw[z];exact hb)) (ÿ _)
 ·exact absurd (à (â (I.pin p hp).1) (by rw[z];exact hb)) (ÿ _)
structure Turn(P:Program)(w:World)(K:PySem.W.Frag)(tg:Expr)(J:It)(fp:List Addr)(it:Addr)(tn:Nat->Heap->Prop):Prop where
 mem:it∈fp
 obj:∀ i h,tn i h->∀ b∈fp,∃ o,h.get? b=some o/\∀ v,o.data≠.cell v
 keep:∀ i h h',tn i h->(∀ b∈fp,∀ o,h.get? b=some o->h'.get? b=some o)->tn i h'
 item:∀ (X:Cx),X.prog=P->X.w=w->X.K=K->X.calm=true->∀ (i:Nat) (pins:List (Addr × Obj)) (s:Shared) (σ:St) (H:Hp) (E:Value->Shared->Prop),Inv X pins σ H s->(∀ b∈fp,b21 X pins H b)->tn i s.heap->J.go i H ->
  wpAny (model P w) X.A (pyNext (.ref it)) (λr s1=>∃ u,r=some u /\
   wpAny (model P w) X.A (letOwnedTupleGo tg (.ref it) u) (λ_ s2=>∃ x H',Inv X pins σ H' s2/\RelV x u/\J.yld i H x H'/\tn (i + 1) s2.heap/\∀ b∈fp,H' b=none) E s1) E s
 done:∀ (X:Cx),X.prog=P->X.w=w->X.K=K->X.calm=true->∀ (i:Nat) (pins:List (Addr × Obj)) (s:Shared) (σ:St) (H:Hp) (E:Value->Shared->Prop),Inv X pins σ H s->(∀ b∈fp,b21 X pins H b)->tn i s.heap->J.stop i H ->
  wpAny (model P w) X.A (pyNext (.ref it)) (λr s1=>r=none/\Inv X pins σ H s1) E s
 self:∀ (A:Around) (i:Nat) (s:Shared) (Q:Value->Shared->Prop) (E:Value->Shared->Prop),tn i s.heap->Q (.ref it) s->wpAny (model P w) A (pyIter (.ref it)) Q E s
abbrev TI:=St->Hp->(It->Hp->Prop)->Prop
def PIE(X:Cx)(pins:List (È × Obj))(σ:St)(tg:Ð)(R:It->Hp->Prop)(itv:Ä)(s2:Æ):Prop :=
 ∃ (it:È) (fp:List È) (tn:Nat->õ->Prop) (J:It) (H':Hp),itv=.ref it/\Inv X pins σ H' s2/\Turn X.prog X.w X.K tg J fp it tn/\tn 0 s2.heap/\(∀ b∈fp,b21 X pins H' b)/\R J H'
def PI(X:Cx)(tg iter:Ð)(wi:TI):Prop :=
 ∀ (pins:List (È × Obj)) (s:Æ) (σ:St) (H:Hp) (R:It->Hp->Prop),Inv X pins σ H s->wi σ H R ->
  Ñ (Ü X.prog X.w) X.A (eval iter X.env) (λv s1=>Ñ (Ü X.prog X.w) X.A (pyIter v) (PIE X pins σ tg R) X.xe s1) X.xe s
theorem D21{M:Model}{A:À3}{E:Ä->Æ->Prop}{s:Æ}{tg:Ð}{it:È}{u:Ä}{o:Obj}{n:String}{vs:Array Ä}{Q:Unit->Æ->Prop}(ho:s.heap.get? it=some o)(hc:o.cls=.type n)(hd:o.data=.fields vs)
  (hn:["enumerate","zip","dict_itemiterator","dict_reverseitemiterator","odict_iterator","itertools.zip_longest","itertools.pairwise"].contains n=false) (hQ:Q () s):Ñ M A (Ü3 tg (.ref it) u) Q E s:=by
 unfold Ü3;cases tg <;> first
  |exact Ê hQ
  |(cases u <;> first
    |exact Ê hQ
    |(refine Á (wpAny_load ho ?_)
      rw[hc,hd];show Ñ M A (if (["enumerate","zip","dict_itemiterator","dict_reverseitemiterator","odict_iterator","itertools.zip_longest","itertools.pairwise"].contains n&&vs[0]? == some (rawInt _))=true then _ else _) Q E s;rw[if_neg (by intro h;rw[hn,Ò5] at h;cases h)]
      exact Ê hQ))
def Itl(K:Â)(a:È):It :=
 ⟨λi H=>∃ xs x,SqL K H a xs/\xs[i]?=some x,λi H x H'=>H'=H/\∀ xs,SqL K H a xs->xs[i]?=some x,λi H=>∃ xs,SqL K H a xs/\xs.length<=i⟩
def Itt(K:Â)(a:È):It :=
 ⟨λi H=>∃ xs x,SqT K H a xs/\xs[i]?=some x,λi H x H'=>H'=H/\∀ xs,SqT K H a xs->xs[i]?=some x,λi H=>∃ xs,SqT K H a xs/\xs.length<=i⟩
def Itr(lo:Int)(n:Nat):It:=⟨λi _=>i < n,λi H x H'=>H'=H/\x=.int (lo + i),λi _=>n<=i⟩
theorem n41{P:ã}{w:ü}{K:Â}{tg:Ð}(a it:È):Turn P w K tg (Itl K a) [it] it (λi h=>h.IsListIter it a i) where
 mem:=by simp
 obj:=λi h st b hb=>by
  have e:b=it:=by simpa using hb
  subst e;obtain⟨o,e,c,d⟩:=st;exact⟨o,e,λv z=>by rw[d] at z;cases z⟩
 keep:=λi h h' st k=>st.at λo e=>k it (by simp) o e
 item:=by
  intro X hP hw hK hc i pins s σ H E I hf st hg;subst hP hw hK;obtain⟨xs,x,hq,hx⟩:=hg;obtain⟨its,rv,p,hz⟩:=I.list hq;obtain⟨u,hu,ru⟩:=rv.get hx;obtain⟨f0,f1,f2,f3,f4,f5⟩:=hf it (by simp)
  refine wpAny_pyNext_list_item st p.isList (x:=u) (by simpa using hu) λh' st' sb=>?_
  have I1:Inv X pins σ H { s with heap:=h' }:=I.turned (t':=s.toks) (λb o hb e=>(sb.2 b hb).trans e) f0 f1 f3 f4 f5;obtain⟨o,e,c,d⟩:=id st';exact⟨u,rfl,D21 (s:={ s with heap:=h' }) e c d (-0) ⟨x,H,I1,ru,⟨rfl,λys hy=>by rw[I.b01 hy hq];exact hx⟩,st',λb hb=>(hf b hb).1⟩⟩
 done:=by
  intro X hP hw hK hc i pins s σ H E I hf st hg;subst hP hw hK;obtain⟨xs,hq,hx⟩:=hg;obtain⟨its,rv,p,hz⟩:=I.list hq;obtain⟨f0,f1,f2,f3,f4,f5⟩:=hf it (by simp)
  have hl:=rv.length;exact wpAny_pyNext_list_end (I.ok.hd hc) st p.isList (by simp;omega) λh' eb=>⟨rfl,I.turned (t':=s.toks) (λb o hb e=>eb b o hb e) f0 f1 f3 f4 f5⟩
 self:=λ_ _ _ _ _ st h=>wpAny_pyIter_listiter st h
theorem i11{P:ã}{w:ü}{K:Â}{tg:Ð}(a it:È):Turn P w K tg (Itt K a) [it] it (λi h=>h.IsTupleIter it a i) where
 mem:=by simp
 obj:=λi h st b hb=>by
  have e:b=it:=by simpa using hb
  subst e;obtain⟨o,e,c,d⟩:=st;exact⟨o,e,λv z=>by rw[d] at z;cases z⟩
 keep:=λi h h' st k=>st.at λo e=>k it (by simp) o e
 item:=by
  intro X hP hw hK hc i pins s σ H E I hf st hg;subst hP hw hK;obtain⟨xs,x,hq,hx⟩:=hg;obtain⟨its,rv,p,hz⟩:=I.tuple hq;obtain⟨u,hu,ru⟩:=rv.get hx;obtain⟨f0,f1,f2,f3,f4,f5⟩:=hf it (by simp)
  refine wpAny_pyNext_tuple_item st (show s.heap.IsTuple a its.toArray from p) (x:=u) (by simpa using hu) λh' st' sb=>?_
  have I1:Inv X pins σ H { s with heap:=h' }:=I.turned (t':=s.toks) (λb o hb e=>(sb.2 b hb).trans e) f0 f1 f3 f4 f5;obtain⟨o,e,c,d⟩:=id st';exact⟨u,rfl,D21 (s:={ s with heap:=h' }) e c d (-0) ⟨x,H,I1,ru,⟨rfl,λys hy=>by rw[I.P90 hy hq];exact hx⟩,st',λb hb=>(hf b hb).1⟩⟩
 done:=by
  intro X hP hw hK hc i pins s σ H E I hf st hg;subst hP hw hK;obtain⟨xs,hq,hx⟩:=hg;obtain⟨its,rv,p,hz⟩:=I.tuple hq;obtain⟨f0,f1,f2,f3,f4,f5⟩:=hf it (by simp)
  have hl:=rv.length;exact wpAny_pyNext_tuple_end (I.ok.hd hc) st (show s.heap.IsTuple a its.toArray from p) (by simp;omega) λh' eb=>⟨rfl,I.turned (t':=s.toks) (λb o hb e=>eb b o hb e) f0 f1 f3 f4 f5⟩
 self:=λ_ _ _ _ _ st h=>wpAny_pyIter_tupleiter st h
theorem i21{P:ã}{w:ü}{K:Â}{tg:Ð}(it:È)(lo:Int)(n:Nat):Turn P w K tg (Itr lo n) [it] it (λi h=>IsRangeIter h it (lo + (i:Nat) * 1) ((n:Int) - (i:Nat)) 1) where
 mem:=by simp
 obj:=λi h st b hb=>by
  have e:b=it:=by simpa using hb
  subst e;exact⟨_,st,λv z=>by
   have z':Data.fields _=Data.cell v:=z;cases z'⟩
 keep:=λi h h' st k=>k it (by simp) _ st
 item:=by
  intro X hP hw hK hc i pins s σ H E I hf st hg;subst hP hw hK;obtain⟨f0,f1,f2,f3,f4,f5⟩:=hf it (by simp)
  have W:=Walks.range (prog:=X.prog) (w:=X.w) (I.ok.hd hc) it lo 1 n;refine W.item i s _ _ hg st λv h' tk hv st' kk=>?_;obtain⟨t,rfl⟩:=hv;have I1:Inv X pins σ H { s with heap:=h',toks:=tk }:=I.turned (λb o hb e=>kk b o (by simpa using hb) e) f0 f1 f3 f4 f5
  refine⟨_,rfl,D21 (s:={ s with heap:=h',toks:=tk }) (n:="range_iterator") st' rfl rfl (-0) ⟨.int (lo + i),H,I1,⟨t,?_⟩,⟨rfl,rfl⟩,st',λb hb=>(hf b hb).1⟩⟩
  rw[mul_one]
 done:=by
  intro X hP hw hK hc i pins s σ H E I hf st hg;subst hP hw hK;obtain⟨f0,f1,f2,f3,f4,f5⟩:=hf it (by simp)
  exact wpAny_pyNext_range_end (I.ok.hd hc) st (by have:n<=i:=hg;omega) λh' eb=>⟨rfl,I.turned (t':=s.toks) (λb o hb e=>eb b o hb e) f0 f1 f3 f4 f5⟩
 self:=λ_ _ _ _ _ st h=>wpAny_pyIter_rangeiter st h
section
variable {X:Cx}{tg:Ð}
def u32(K:Â)(tl:TE):TI:=λσ H R=>tl σ H λx H1=>∃ a,x=.ref a/\(∃ xs,SqL K H1 a xs)/\R (Itl K a) H1
def J72(K:Â)(tl:TE):TI:=λσ H R=>tl σ H λx H1=>∃ a,x=.ref a/\(∃ xs,SqT K H1 a xs)/\R (Itt K a) H1
theorem W80{l:Ð}{tl:TE}(hl:PE X l tl):PI X tg l (u32 X.K tl):=by
 intro pins s σ H R I h;refine thn (hl pins s σ H _ I h) λv s1 ⟨x,H1,I1,r1,q1⟩=>?_;obtain⟨a,e,⟨xs,hq⟩,q⟩:=q1;subst e;cases r1;obtain⟨its,rv,p,hz⟩:=I1.list hq;refine wpAny_pyIter_list p.isList ?_;refine⟨s1.heap.objs.size,[s1.heap.objs.size],_,_,H1,rfl,I1.kept (t':=s1.toks) λb o e=>Ã _ e,n41 a _,⟨_,Ï _ rfl,rfl,rfl⟩,λb hb=>?_,q⟩;have e:b=s1.heap.objs.size:=by simpa using hb
 subst e;exact I1.i01 (Ì _) (I1.hok.fresh (Ì _))
theorem M11{l:Ð}{tl:TE}(hl:PE X l tl):PI X tg l (J72 X.K tl):=by
 intro pins s σ H R I h;refine thn (hl pins s σ H _ I h) λv s1 ⟨x,H1,I1,r1,q1⟩=>?_;obtain⟨a,e,⟨xs,hq⟩,q⟩:=q1;subst e;cases r1;obtain⟨its,rv,p,hz⟩:=I1.tuple hq;refine É6 (show s1.heap.IsTuple a its.toArray from p) ?_;refine⟨s1.heap.objs.size,[s1.heap.objs.size],_,_,H1,rfl,I1.kept (t':=s1.toks) λb o e=>Ã _ e,i11 a _,⟨_,Ï _ rfl,rfl,rfl⟩,λb hb=>?_,q⟩;have e:b=s1.heap.objs.size:=by simpa using hb
 subst e;exact I1.i01 (Ì _) (I1.hok.fresh (Ì _))
theorem b31{pins:List (È × Obj)}{σ:St}{H:Hp}{s:Æ}{R:It->Hp->Prop}{E:Ä->Æ->Prop}{lo hi:Int}{t u v:Tok}{tk:Nat}(I:Inv X pins σ H s)(h1:-(2 ^ 62)<=lo)(h2:lo < 2 ^ 62)(h3:-(2 ^ 62)<=hi)(h4:hi < 2 ^ 62)
  (q:R (Itr lo (hi - lo).toNat) H):Ñ (Ü X.prog X.w) X.A (pyIter (.ref s.heap.objs.size)) (PIE X pins σ tg R) E { s with heap:=s.heap.push { cls:=.type "range",data:=.fields #[.int lo t,.int hi u,.int 1 v] },toks:=tk }:=by
 refine wpAny_pyIter_range (Ò8.new ..) (small_one h1 h2 h3 h4) ?_;have I1:Inv X pins σ H { s with heap:=s.heap.push { cls:=.type "range",data:=.fields #[.int lo t,.int hi u,.int 1 v] },toks:=tk }:=I.kept λb o e=>Ã _ e;refine⟨(s.heap.push { cls:=.type "range",data:=.fields #[.int lo t,.int hi u,.int 1 v] }).objs.size,[(s.heap.push { cls:=.type "range",data:=.fields #[.int lo t,.int hi u,.int 1 v] }).objs.size],_,_,H,rfl,
  I1.kept (t':=tk) λb o e=>Ã _ e,i21 _ lo (hi - lo).toNat,?_,λb hb=>?_,q⟩
 ·have e1:lo + ((0:Nat):Int) * 1=lo:=by simp
  have e2:(((hi - lo).toNat:Nat):Int) - ((0:Nat):Int)=Â7 lo hi 1:=by rw[rangeSize_one];split <;> omega
  show IsRangeIter _ _ (lo + ((0:Nat):Int) * 1) ((((hi - lo).toNat:Nat):Int) - ((0:Nat):Int)) 1;rw[e1,e2];exact Ï _ rfl
 ·have e:b=(s.heap.push { cls:=.type "range",data:=.fields #[.int lo t,.int hi u,.int 1 v] }).objs.size:=by simpa using hb
  subst e;exact I1.i01 (Ì _) (I1.hok.fresh (Ì _))
def u42(ta:TA):TI:=λσ H R=>ta σ H λvs H1=>∃ j:Int,vs=[.int j]/\-(2 ^ 62)<=j/\j < 2 ^ 62/\R (Itr 0 j.toNat) H1
def u52(ta:TA):TI:=λσ H R=>ta σ H λvs H1=>∃ i j:Int,vs=[.int i,.int j]/\(-(2 ^ 62)<=i/\i < 2 ^ 62/\-(2 ^ 62)<=j/\j < 2 ^ 62)/\R (Itr i (j - i).toNat) H1
theorem n51{a:Ð}{ta:TA}{p pos:Pos}(hg:Gl X "range")(hm:X.mg "range"=none)(ha:PA X [a] ta)(hs:ý [a] X.env=[(false,eval a X.env)]:=by rfl):PI X tg (.Call (.Name "range" p) [a] [] pos) (u42 ta):=by
 intro pins s σ H R I h;refine Call_ (u90 I hg hm boot_range (À4 (thn (ha pos pins s σ H _ I h) λus s1 ⟨vs,H1,I1,r1,q1⟩=>?_) hs rfl));obtain⟨j,e,q1,q2,q⟩:=q1;subst e;cases r1 with
 |cons r rr =>
  cases rr;obtain⟨t,rfl⟩:=r;exact call_range_1 (b31 I1 ∅ ∅ q1 q2 (by simpa using q))
theorem n61{a b:Ð}{ta:TA}{p pos:Pos}(hg:Gl X "range")(hm:X.mg "range"=none)(ha:PA X [a,b] ta)(hs:ý [a,b] X.env=[(false,eval a X.env),(false,eval b X.env)]:=by rfl)(hs2:ý [b] X.env=[(false,eval b X.env)]:=by rfl) :
  PI X tg (.Call (.Name "range" p) [a,b] [] pos) (u52 ta):=by
 intro pins s σ H R I h;refine Call_ (u90 I hg hm boot_range (À4 (thn (ha pos pins s σ H _ I h) λus s1 ⟨vs,H1,I1,r1,q1⟩=>?_) (by rw[hs,hs2]) (by rw[hs2];rfl)))
 obtain⟨i,j,e,⟨q1,q2,q3,q4⟩,q⟩:=q1;subst e;cases r1 with
 |cons r rr =>
  cases rr with
  |cons r' rr =>
   cases rr;obtain⟨t,rfl⟩:=r;obtain⟨t',rfl⟩:=r';exact call_range_2 (b31 I1 q1 q2 q3 q4 q)
def J82(wi:TI)(g:TG)(tb:TS):TS:=λD σ H=>wi σ H λJ H1=>∃ W:Nat->Nat->St->Hp->Prop,(∃ m,W 0 m σ H1)/\∀ i m σ H,W i m σ H ->
 (J.stop i H/\D.nx σ H)∨(J.go i H/\∃ N:St->Hp->Prop,(∀ σ' H',N σ' H'->∃ m',m' < m/\W (i + 1) m' σ' H')/\∀ x H',J.yld i H x H'->g x σ H' λσ2 H2=>tb { D with nx:=N,ct:=N,bk:=D.nx } σ2 H2)
def D00(fp:List È)(h:õ):List (È × Obj):=fp.filterMap λb=>(h.get? b).map λo=>(b,o)
theorem l70{fp:List È}{h:õ}{b:È}{o:Obj}(hb:b∈fp)(e:h.get? b=some o):(b,o)∈D00 fp h:=Ô5.mpr ⟨b,hb,by rw[e];rfl⟩
theorem Q10{fp:List È}{h:õ}{p:È × Obj}(hp:p∈D00 fp h):p.1∈fp/\h.get? p.1=some p.2:=by
 obtain⟨b,hb,e⟩:=Ô5.mp hp;cases q:h.get? b with
 |none=>rw[q] at e;cases e
 |some o =>
  rw[q] at e;have e':(b,o)=p:=À1 e;subst e';exact⟨hb,q⟩
theorem Inv.pinned{pins:List (È × Obj)}{σ:St}{H:Hp}{s:Æ}{fp:List È}(I:Inv X pins σ H s)(hf:∀ b∈fp,b21 X pins H b)(ho:∀ b∈fp,∃ o,s.heap.get? b=some o/\∀ v,o.data≠.cell v):Inv X (pins++D00 fp s.heap) σ H s :=
 I.C90 λp hp=>(Á0.mp hp).elim (λz=>I.pin p (è _ z)) λz=>by
  obtain⟨hb,e⟩:=Q10 z;obtain⟨f0,f1,f2,_⟩:=hf p.1 hb;obtain⟨o,e',d⟩:=ho p.1 hb;rw[e] at e';cases e';exact⟨e,f0,f1,f2,d⟩
theorem Inv.J00{pins pl:List (È × Obj)}{σ:St}{H:Hp}{s:Æ}(I:Inv X (pins++pl) σ H s):Inv X pins σ H s:=I.C90 λp hp=>I.pin p (è _ (Ì3 _ hp))
theorem n71{iter:Ð}{body:List Ã9}{wi:TI}{g:TG}{tb:TS}{pos:Pos}(hp:PassesOwn (Ü X.prog X.w) X.A X.env X.xe)(hc:X.calm=true)(hi:PI X tg iter wi)(hg:PG X tg g)(hb:PSs X body tb)
  (hs:∀ x,Ê4 iter X.env x=pure x:=by intro _;rfl):PS X (.For tg iter body [] pos) (J82 wi g tb):=by
 intro pins s σ H D I h;refine wpAny_For (thn (hi pins s σ H _ I h) λv s1 h1=>thn h1 λitv s2 h2=>?_) hs;obtain⟨it,fp,tn,J,H2,e,I2,T,st2,f2,W,⟨m0,w0⟩,turn⟩:=h2;subst e;have stat:∀ {H':Hp},(∀ b∈fp,H' b=none)->∀ b∈fp,b21 X pins H' b:=λhn b hb=>⟨hn b hb,(f2 b hb).2⟩;refine codeAny_forLoop_any (λn s'=>∃ i σ' H',Inv X pins σ' H' s'/\tn i s'.heap/\(∀ b∈fp,H' b=none)/\W i n σ' H') ?_ m0 ⟨0,σ,H2,I2,st2,λb hb=>(f2 b hb).1,w0⟩;rintro n s3 ⟨i,σ3,H3,I3,st3,fr3,w3⟩;rcases turn i n σ3 H3 w3 with ⟨stop,qn⟩ | ⟨go,N,hN,step⟩
 ·refine Æ8 hp (thn (T.done X rfl rfl rfl hc i pins s3 σ3 H3 X.xe I3 (stat fr3) st3 stop) λr s4 ⟨hr,I4⟩=>?_);subst hr;exact Ó0 ⟨σ3,H3,I4,qn⟩
 ·refine Æ8 hp (thn (T.item X rfl rfl rfl hc i pins s3 σ3 H3 X.xe I3 (stat fr3) st3 go) λr s4 ⟨u,hr,h4⟩=>?_);subst hr;refine Æ8 hp (thn h4 λ_ s5 ⟨x,H5,I5,r5,y5,st5,fr5⟩=>?_);have I5':=I5.pinned (stat fr5) (T.obj _ _ st5);refine Æ8 hp (thn (hg _ s5 σ3 H5 x u _ I5' r5 (step x H5 y5)) λ_ s6 ⟨σ6,H6,I6,q6⟩=>?_);refine Æ8 hp (thn (hb _ s6 σ6 H6 _ I6 q6) λf s7 q7=>?_);have again:∀ {σ7:St}{H7:Hp},Inv X (pins++D00 fp s5.heap) σ7 H7 s7->N σ7 H7->∃ m,m < n/\∃ i σ' H',Inv X pins σ' H' s7/\tn i s7.heap/\(∀ b∈fp,H' b=none)/\W i m σ' H':=λ{σ7 H7} I7 n7=>by
   obtain⟨m',hm,w7⟩:=hN σ7 H7 n7;refine⟨m',hm,i + 1,σ7,H7,I7.J00,T.keep _ _ _ st5 λb hb o e=>(I7.pin (b,o) (è _ (è _ (l70 hb e)))).1,λb hb=>?_,w7⟩;obtain⟨o,e,d⟩:=T.obj _ _ st5 b hb;exact(I7.pin (b,o) (è _ (è _ (l70 hb e)))).2.1
  cases f with
  |next=>obtain⟨σ7,H7,I7,n7⟩:=q7;exact again I7 n7
  |cont=>obtain⟨σ7,H7,I7,n7⟩:=q7;exact again I7 n7
  |brk=>obtain⟨σ7,H7,I7,q7⟩:=q7;exact⟨σ7,H7,I7.J00,q7⟩
  |ret v=>obtain⟨x7,σ7,H7,I7,r7,q7⟩:=q7;exact⟨x7,σ7,H7,I7.J00,r7,q7⟩
end
abbrev R2:=V->V->Hp->VK->Prop
def OpR(X:Cx)(f:Ä->Ä->Sem Ä)(r:R2):Prop :=
 ∀ (pins:List (È × Obj)) (s:Æ) (σ:St) (H:Hp) (x y:V) (v u:Ä) (Q:VK),Inv X pins σ H s->RelV x v->RelV y u->r x y H Q ->
  Ñ (Ü X.prog X.w) X.A (f v u) (EP X pins σ Q) X.xe s
def UnR(X:Cx)(f:Ä->Sem Ä)(r:V->Hp->VK->Prop):Prop :=
 ∀ (pins:List (È × Obj)) (s:Æ) (σ:St) (H:Hp) (x:V) (v:Ä) (Q:VK),Inv X pins σ H s->RelV x v->r x H Q ->
  Ñ (Ü X.prog X.w) X.A (f v) (EP X pins σ Q) X.xe s
def g60(X:Cx)(f:Ä)(r:List V->Hp->VK->Prop):Prop :=
 ∀ (pins:List (È × Obj)) (s:Æ) (σ:St) (H:Hp) (xs:List V) (us:List Ä) (Q:VK),Inv X pins σ H s->Vals xs us->r xs H Q ->
  Ñ (Ü X.prog X.w) X.A (call f us) (EP X pins σ Q) X.xe s
def tOp(r:R2)(ta tb:TE):TE:=λσ H Q=>ta σ H λx H1=>tb σ H1 λy H2=>r x y H2 Q
def tUn(r:V->Hp->VK->Prop)(ta:TE):TE:=λσ H Q=>ta σ H λx H1=>r x H1 Q
def rI(C:Int->Int->Prop)(g:Int->Int->V):R2:=λx y H Q=>∃ i j,x=.int i/\y=.int j/\C i j/\Q (g i j) H
def rI0(g:Int->Int->V):R2:=λx y H Q=>∃ i j,x=.int i/\y=.int j/\Q (g i j) H
def rU(g:Int->V):V->Hp->VK->Prop:=λx H Q=>∃ i,x=.int i/\Q (g i) H
section
variable {X:Cx}{a b c:Ð}{ta tb tc:TE}{pos:Pos}
theorem u62(ha:PE X a ta)(hb:PE X b tb){pins:List (È × Obj)}{s:Æ}{σ:St}{H:Hp}{R:V->V->Hp->Prop}(I:Inv X pins σ H s)
  (h:ta σ H λx H1=>tb σ H1 λy H2=>R x y H2) {Q:Ä->Æ->Prop}{f:Ä->Ä->Sem Ä}
  (hf:∀ v u s2 x y H2,Inv X pins σ H2 s2->RelV x v->RelV y u->R x y H2->Ñ (Ü X.prog X.w) X.A (f v u) Q X.xe s2) :
  Ñ (Ü X.prog X.w) X.A (eval a X.env) (λv s₁=>Ñ (Ü X.prog X.w) X.A (eval b X.env) (λu s₂=>Ñ (Ü X.prog X.w) X.A (f v u) Q X.xe s₂) X.xe s₁) X.xe s:=by
 refine thn (ha pins s σ H _ I h) λv s1 ⟨x,H1,I1,r1,q1⟩=>?_;refine thn (hb pins s1 σ H1 _ I1 q1) λu s2 ⟨y,H2,I2,r2,q2⟩=>?_;exact hf v u s2 x y H2 I2 r1 r2 q2
theorem u72{op:Ì9}{r:R2}(ho:OpR X (Ã6 op) r)(ha:PE X a ta)(hb:PE X b tb):PE X (.BinOp a op b pos) (tOp r ta tb):=by
 intro pins s σ H Q I h;exact wpAny_BinOp (u62 ha hb I h λv u s2 x y H2 I2 rx ry q=>ho pins s2 σ H2 x y v u Q I2 rx ry q)
theorem u82{op:UnaryOp}{r:V->Hp->VK->Prop}(ho:UnR X (unaryOp op) r)(ha:PE X a ta):PE X (.UnaryOp op a pos) (tUn r ta):=by
 intro pins s σ H Q I h;exact UnaryOp_ (thn (ha pins s σ H _ I h) λv s1 ⟨x,H1,I1,r1,q1⟩=>ho pins s1 σ H1 x v Q I1 r1 q1)
theorem opI{f:Ä->Ä->Sem Ä}{C:Int->Int->Prop}{g:Int->Int->Int}
  (rule:∀ (i j:Int) (t u:Tok) (s:Æ) (Q:Ä->Æ->Prop) (E:Ä->Æ->Prop),C i j->Q (.int (g i j) s.toks) { s with toks:=s.toks + 1 }->Ñ (Ü X.prog X.w) X.A (f (.int i t) (.int j u)) Q E s) :
  OpR X f (rI C λi j=>.int (g i j)):=by
 intro pins s σ H x y v u Q I rx ry h;obtain⟨i,j,rfl,rfl,hc,q⟩:=h;obtain⟨t,rfl⟩:=rx;obtain⟨t',rfl⟩:=ry;exact rule i j t t' s _ _ hc ⟨.int (g i j),H,I.tok _,⟨_,rfl⟩,q⟩
theorem u92{f:Ä->Ä->Sem Ä}{g:Int->Int->Int}
  (rule:∀ (i j:Int) (t u:Tok) (s:Æ) (Q:Ä->Æ->Prop) (E:Ä->Æ->Prop),Q (.int (g i j) s.toks) { s with toks:=s.toks + 1 }->Ñ (Ü X.prog X.w) X.A (f (.int i t) (.int j u)) Q E s) :
  OpR X f (rI0 λi j=>.int (g i j)):=by
 intro pins s σ H x y v u Q I rx ry h;obtain⟨i,j,rfl,rfl,q⟩:=h;obtain⟨t,rfl⟩:=rx;obtain⟨t',rfl⟩:=ry;exact rule i j t t' s _ _ ⟨.int (g i j),H,I.tok _,⟨_,rfl⟩,q⟩
theorem v02{f:Ä->Ä->Sem Ä}{g:Int->Int->Bool}
  (rule:∀ (i j:Int) (t u:Tok) (s:Æ) (Q:Ä->Æ->Prop) (E:Ä->Æ->Prop),Q (.bool (g i j)) s->Ñ (Ü X.prog X.w) X.A (f (.int i t) (.int j u)) Q E s) :
  OpR X f (rI0 λi j=>.bl (g i j)):=by
 intro pins s σ H x y v u Q I rx ry h;obtain⟨i,j,rfl,rfl,q⟩:=h;obtain⟨t,rfl⟩:=rx;obtain⟨t',rfl⟩:=ry;exact rule i j t t' s _ _ ⟨.bl (g i j),H,I,rfl,q⟩
def F32(i j:Int):Prop:=0<=j/\j<=1000000/\i.natAbs < 2 ^ 64
theorem e92:OpR X (Ã6 .Add) (rI0 λi j=>.int (i + j)):=u92 λ_ _ _ _ _ _ _ q=>add_int q
theorem f02:OpR X (Ã6 .Sub) (rI0 λi j=>.int (i - j)):=u92 λ_ _ _ _ _ _ _ q=>sub_int q
theorem f12:OpR X (binaryOp .Mod) (rI (λ_ j=>0 < j) λi j=>.int (i % j)):=opI λi j _ _ _ _ _ hc q=>by
 have h1:(0:Int) < j:=hc;exact mod_int' ∅ (by rw[Int.fmod_eq_emod_of_nonneg i ∅];exact q)
theorem f22:OpR X (Ã6 .Pow) (rI F32 λi j=>.int (i ^ j.toNat)):=opI λ_ _ _ _ _ _ _ hc q=>pow_int_small hc.1 hc.2.1 hc.2.2 q
theorem F42:OpR X (Ã6 .LShift) (rI F32 λi j=>.int (i * 2 ^ j.toNat)):=opI λ_ _ _ _ _ _ _ hc q=>lshift_int_small hc.1 hc.2.1 hc.2.2 q
theorem F52:OpR X (Ã6 .BitAnd) (rI0 λi j=>.int (Å6.bitAnd i j)):=u92 λ_ _ _ _ _ _ _ q=>and_int q
theorem unI{f:Ä->Sem Ä}{g:Int->Int}
  (rule:∀ (i:Int) (t:Tok) (s:Æ) (Q:Ä->Æ->Prop) (E:Ä->Æ->Prop),Q (.int (g i) s.toks) { s with toks:=s.toks + 1 }->Ñ (Ü X.prog X.w) X.A (f (.int i t)) Q E s) :
  UnR X f (rU λi=>.int (g i)):=by
 intro pins s σ H x v Q I rx h;obtain⟨i,rfl,q⟩:=h;obtain⟨t,rfl⟩:=rx;exact rule i t s _ _ ⟨.int (g i),H,I.tok _,⟨_,rfl⟩,q⟩
theorem f32:UnR X (unaryOp .USub) (rU λi=>.int (-i)):=unI λ_ _ _ _ _ q=>neg_int q
theorem b41{pins:List (È × Obj)}{σ:St}{H:Hp}{s:Æ}{Q:VK}{k k':Bool}(I:Inv X pins σ H s)(q:Q (.bl k) H)(e:k=k'):EP X pins σ Q (.bool k') s:=by
 subst e;exact⟨.bl k,H,I,rfl,q⟩
theorem v22:OpR X (ú .LtE) (rI0 λi j=>.bl (decide (i<=j))):=v02 λ_ _ _ _ _ _ _ q=>le_int q
theorem v32:OpR X (ú .Gt) (rI0 λi j=>.bl (decide (j < i))):=v02 λ_ _ _ _ _ _ _ q=>gt_int q
theorem v42:OpR X (ú .GtE) (rI0 λi j=>.bl (decide (j<=i))):=v02 λ_ _ _ _ _ _ _ q=>ge_int q
theorem F62:OpR X (ú .Is) (λx y H Q=>y=.non/\Q (.bl (decide (x=.non))) H):=by
 intro pins s σ H x y v u Q I rx ry h;obtain⟨rfl,q⟩:=h;cases ry;refine is_none_gen (b41 I q ?_);cases x <;> first
  |(cases rx;rfl)
  |(obtain⟨t,rfl⟩:=rx;rfl)
theorem v52:OpR X (ú .IsNot) (λx y H Q=>y=.non/\Q (.bl (!decide (x=.non))) H):=by
 intro pins s σ H x y v u Q I rx ry h;obtain⟨rfl,q⟩:=h;cases ry;refine isnot_none_gen (b41 I q ?_);cases x <;> first
  |(cases rx;rfl)
  |(obtain⟨t,rfl⟩:=rx;rfl)
theorem R11{op:CmpOp}{r:R2}(ho:OpR X (ú op) r)(ha:PE X a ta)(hb:PE X b tb)(hm:behindInMarks op b=false):PE X (.Compare a [op] [b] pos) (tOp r ta tb):=by
 intro pins s σ H Q I h;exact wpAny_Compare1 (u62 ha hb I h λv u s2 x y H2 I2 rx ry q=>ho pins s2 σ H2 x y v u Q I2 rx ry q) hm
def f42(t:TE):TT:=λσ H Q=>t σ H λx H'=>∃ k,x=.bl k/\Q k H'
theorem R21{op:CmpOp}{r:R2}(ho:OpR X (ú op) r)(ha:PE X a ta)(hb:PE X b tb)(hm:behindInMarks op b=false):PT X (.Compare a [op] [b] pos) (f42 (tOp r ta tb)):=by
 intro pins s σ H Q I h;refine wpAny_isTrue_Compare1 (thn (ha pins s σ H _ I h) λv s1 ⟨x,H1,I1,r1,q1⟩=>thn (hb pins s1 σ H1 _ I1 q1) λu s2 ⟨y,H2,I2,r2,q2⟩ =>
  thn (ho pins s2 σ H2 x y v u _ I2 r1 r2 q2) λc s3 ⟨z,H3,I3,r3,k,e,q3⟩=>?_) hm
 subst e;cases r3;exact Á8 ⟨H3,I3,q3⟩
def n81(r r':R2)(ta tb tc:TE):TE:=λσ H Q=>ta σ H λx H1=>tb σ H1 λy H2=>r x y H2 λz H3=>∃ k,z=.bl k /\
 (if k=true then tc σ H3 λw' H4=>r' y w' H4 Q else Q (.bl false) H3)
theorem D31{op op':CmpOp}{r r':R2}(ho:OpR X (ú op) r)(ho':OpR X (ú op') r')(ha:PE X a ta)(hb:PE X b tb)(hc:PE X c tc)
  (hm:lastMarks [op,op'] [b,c]=false:=by with_unfolding_all rfl):PE X (.Compare a [op,op'] [b,c] pos) (n81 r r' ta tb tc):=by
 intro pins s σ H Q I h;refine Compare_chain (thn (ha pins s σ H _ I h) λv s1 ⟨x,H1,I1,r1,q1⟩=>chain_link (thn (hb pins s1 σ H1 _ I1 q1) λu s2 ⟨y,H2,I2,r2,q2⟩ =>
  thn (ho pins s2 σ H2 x y v u _ I2 r1 r2 q2) λd s3 ⟨z,H3,I3,r3,k,e,q3⟩=>?_)) hm
 subst e;cases r3;refine Á8 ?_;cases k with
 |false=>exact ite_ff ⟨.bl false,H3,I3,rfl,q3⟩|true=>exact ite_tt (chain_last (thn (hc pins s3 σ H3 _ I3 q3) λw' s4 ⟨z',H4,I4,r4,q4⟩=>ho' pins s4 σ H4 y z' u w' Q I4 r2 r4 q4))
theorem D41{op op':CmpOp}{r r':R2}(ho:OpR X (ú op) r)(ho':OpR X (ú op') r')(ha:PE X a ta)(hb:PE X b tb)(hc:PE X c tc)
  (hm:lastMarks [op,op'] [b,c]=false:=by with_unfolding_all rfl):PT X (.Compare a [op,op'] [b,c] pos) (f42 (n81 r r' ta tb tc)):=by
 intro pins s σ H Q I h;refine isTrue_chain (thn (ha pins s σ H _ I h) λv s1 ⟨x,H1,I1,r1,q1⟩=>test_link (thn (hb pins s1 σ H1 _ I1 q1) λu s2 ⟨y,H2,I2,r2,q2⟩ =>
  thn (ho pins s2 σ H2 x y v u _ I2 r1 r2 q2) λd s3 ⟨z,H3,I3,r3,k,e,q3⟩=>?_)) hm
 subst e;cases r3;refine Á8 ?_;cases k with
 |false =>
  obtain⟨k',e',q'⟩:=q3;cases e';exact ite_ff ⟨H3,I3,q'⟩
 |true =>
  refine ite_tt (test_last (thn (hc pins s3 σ H3 _ I3 q3) λw' s4 ⟨z',H4,I4,r4,q4⟩=>thn (ho' pins s4 σ H4 y z' u w' _ I4 r2 r4 q4) λd' s5 ⟨z2,H5,I5,r5,k2,e2,q5⟩=>?_));subst e2;cases r5;exact Á8 ⟨H5,I5,q5⟩
theorem Q20:(sizeLine:Nat) < 2 ^ 63:=by rw[Á4];decide
theorem vals1{x:V}{us:List Ä}(r:Vals [x] us):∃ u,us=[u]/\RelV x u:=by
 cases r with
 |cons r1 r2=>cases r2;exact⟨_,rfl,r1⟩
theorem vals2{x y:V}{us:List Ä}(r:Vals [x,y] us):∃ u w',us=[u,w']/\RelV x u/\RelV y w':=by
 cases r with
 |cons r1 r2 =>
  cases r2 with
  |cons r3 r4=>cases r4;exact⟨_,_,rfl,r1,r3⟩
theorem r52:g60 X (.builtin "abs") (λxs H Q=>∃ i,xs=[.int i]/\Q (.int (if i < 0 then -i else i)) H):=by
 intro pins s σ H xs us Q I r h;obtain⟨i,rfl,q⟩:=h;obtain⟨u,rfl,t,rfl⟩:=vals1 r;exact call_abs_int λu tk=>⟨.int (if i < 0 then -i else i),H,I.tok _,⟨_,rfl⟩,q⟩
theorem n91(hc:X.calm=true):g60 X (.builtin "max") (λxs H Q=>∃ i j,xs=[.int i,.int j]/\Q (.int (if j > i then j else i)) H):=by
 intro pins s σ H xs us Q I r h;obtain⟨i,j,rfl,q⟩:=h;obtain⟨u,w',rfl,⟨t,rfl⟩,⟨t',rfl⟩⟩:=vals2 r;refine max_two_ints (I.ok.hd hc) λh' tk k=>⟨_,H,I.kept k,?_,q⟩;by_cases hj:j > i
 ·rw[if_pos hj,if_pos hj];exact⟨_,rfl⟩
 ·rw[if_neg hj,if_neg hj];exact⟨_,rfl⟩
theorem o01(hc:X.calm=true):g60 X (.builtin "min") (λxs H Q=>∃ i j,xs=[.int i,.int j]/\Q (.int (if j < i then j else i)) H):=by
 intro pins s σ H xs us Q I r h;obtain⟨i,j,rfl,q⟩:=h;obtain⟨u,w',rfl,⟨t,rfl⟩,⟨t',rfl⟩⟩:=vals2 r;refine min_two_ints (I.ok.hd hc) λh' tk k=>⟨_,H,I.kept k,?_,q⟩;by_cases hj:j < i
 ·rw[if_pos hj,if_pos hj];exact⟨_,rfl⟩
 ·rw[if_neg hj,if_neg hj];exact⟨_,rfl⟩
theorem Q30:g60 X (.type "int") (λxs H Q=>(∃ i,xs=[.int i]/\Q (.int i) H)∨∃ k,xs=[.bl k]/\Q (.int (if k then 1 else 0)) H):=by
 intro pins s σ H xs us Q I r h;rcases h with ⟨i,rfl,q⟩ | ⟨k,rfl,q⟩
 ·obtain⟨u,rfl,t,rfl⟩:=vals1 r;exact call_int_int ⟨.int i,H,I,⟨_,rfl⟩,q⟩
 ·obtain⟨u,rfl,r1⟩:=vals1 r;cases r1;exact call_int_bool ⟨.int (if k then 1 else 0),H,I.tok _,⟨_,rfl⟩,q⟩
end
structure Q40(k:Nat)(A:Around):Prop where
 hd:A.handled=none
 dp:A.depth + 3 * k + 5 < recursionLimit
 un:A.units + 16 * k + 200 < cLine
theorem Q40.deeper{k:Nat}{A:À3}(r:Q40 (k + 1) A)(env:Env):Q40 k (A.deeper env) :=
 ⟨r.hd,by have:=r.dp;show A.depth + 1 + 3 * k + 5 < _;omega,by have:=r.un;show A.units + 3 + 16 * k + 200 < _;omega⟩
theorem Q40.depth{k:Nat}{A:À3}(r:Q40 k A):A.depth < recursionLimit:=by have:=r.dp;omega
theorem Q40.units{k:Nat}{A:À3}(r:Q40 k A):A.units + 64 < cLine:=by have:=r.un;omega
def f52:TA:=λ_ H Q=>Q [] H
def o21(ta:TE)(tr:TA):TA:=λσ H Q=>ta σ H λx H1=>tr σ H1 λxs H2=>Q (x::xs) H2
section
variable {X:Cx}{e:Ð}{es:List Ð}{te:TE}{t:TA}{pos:Pos}
theorem v00:PA X [] f52:=λ_ _ _ _ H Q I h=>Õ6 ⟨[],H,I,.nil,h⟩
theorem g70(ha:PE X e te)(hr:PA X es t)(hs:ý (e::es) X.env=(false,eval e X.env)::ý es X.env:=by rfl):PA X (e::es) (o21 te t):=by
 intro pos pins s σ H Q I h;rw[hs];show Ñ _ _ (spliced ((false,eval e X.env)::Ò7 pos (ý es X.env))) _ _ s;refine Calls.spliced_cons (thn (ha pins s σ H _ I h) λu s1 ⟨x,H1,I1,r1,q1⟩=>?_);exact thn (hr pos pins s1 σ H1 _ I1 q1) λus s2 ⟨xs,H2,I2,r2,q2⟩=>⟨x::xs,H2,I2,.cons r1 r2,q2⟩
def J92(t:TA):TE:=λσ H Q=>t σ H λxs H1=>xs.length<=sizeLine/\∀ p,H1 p=none->Q (.ref p) (upd H1 p (.tup xs))
def F72(t:TA):TE:=λσ H Q=>t σ H λxs H1=>xs.length<=sizeLine/\∀ p,H1 p=none->Q (.ref p) (upd H1 p (.lst xs))
theorem M21{x1}(h:PA X es t):PE X (.Tuple es x1 pos) (J92 t):=by
 intro pins s σ H Q I hq;refine wpAny_Tuple_spliced (thn (h pos pins s σ H _ I hq) λus s1 ⟨xs,H1,I1,r,z,q⟩=>⟨by rw[← r.length];exact z,?_⟩)
 have hf:H1 s1.heap.objs.size=none:=I1.hok.fresh (Ì _);refine⟨.ref s1.heap.objs.size,upd H1 s1.heap.objs.size (.tup xs),I1.laid (t':=s1.toks) (λb u e=>Ã _ e) (Ì _) ?_,rfl,q _ hf⟩;exact⟨z,us,r,⟨_,Ï _ rfl,rfl,_,rfl⟩⟩
theorem M31(h:PA X es t):PE X (.List es pos) (F72 t):=by
 intro pins s σ H Q I hq;refine wpAny_List_spliced (thn (h pos pins s σ H _ I hq) λus s1 ⟨xs,H1,I1,r,z,q⟩=>⟨by rw[← r.length];exact z,?_⟩)
 have hf:H1 s1.heap.objs.size=none:=I1.hok.fresh (Ì _);refine⟨.ref s1.heap.objs.size,upd H1 s1.heap.objs.size (.lst xs),I1.laid (t':=s1.toks) (λb u e=>Ã _ e) (Ì _) ?_,rfl,q _ hf⟩;exact⟨z,us,0,r,Ï _ rfl⟩
end
abbrev Sp:=List V->Hp->VK->XK->Prop
abbrev CXT:=List Env->Hp->Æ->XK->Ä->Æ->Prop
structure r62(P:Program)(w:World)(K:PySem.W.Frag)(mg:Str->Option Value)(base:Heap)(A:Around)(outer:List Env)(s:Shared)(H:Hp):Prop where
 frames:A.frames=some outer
 mod:Mod K mg base
 bs:∀ b o,base.get? b=some o->s.heap.get? b=some o/\H b=none
 bsz:base.objs.size<=s.heap.objs.size
 C31:s.heap.FunFrames base outer
 frf:∀ b∈frs outer,H b=none
 hok:HOk P w H s.heap
 bare:AllBare s.gens
def CE(outer:List Env)(P:ã)(w:ü)(H:Hp)(s:Æ)(Q:VK)(u:Ä)(s':Æ):Prop :=
 ∃ v H',s'.os=s.os/\Ò9 s'.gens/\Un (frs outer) [] H H' s.heap s'.heap/\HOk P w H' s'.heap/\RelV v u/\Q v H'
def CR(CX:CXT)(outer:List Env)(P:ã)(w:ü)(H:Hp)(s:Æ)(Q:VK)(E:XK)(r:Result)(s':Æ):Prop :=
 match r with
 |.ok (.ret u)=>CE outer P w H s Q u s'|.ok _=>False|.error e=>CX outer H s E e s'
structure i31(P:Program)(w:World)(K:PySem.W.Frag)(mg:Str->Option Value)(base:Heap)(CX:CXT)(k:Nat)(f:Addr)(fd:FuncData)(ps:List Str)(sp:Sp):Prop where
 len:∀ vs H Q E,sp vs H Q E->vs.length=ps.length
 run:∀ (A:Around) (outer:List Env) (s:Shared) (H:Hp) (args:Args) (us:List Value) (vs:List V) (Q:VK) (E:XK),Q40 k A->r62 P w K mg base A outer s H->BindsTo s fd args (ps.zip us)->Vals vs us->sp vs H Q E ->
  codeAny (model P w) A (.call (.ref f) args) (CR CX outer P w H s Q E) s
section
variable {X:Cx}{pins:List (È × Obj)}{σ:St}{H:Hp}{s s':Æ}
theorem Inv.K02(I:Inv X pins σ H s):r62 X.prog X.w X.K X.mg X.base X.A X.stack s H :=
 ⟨I.ok.frames,I.ok.mod,I.bs,Ù I.ok.bsz I.sz,I.stack,I.W40,I.hok,I.bare⟩
theorem Inv.after{Q:VK}{u:Ä}(I:Inv X pins σ H s)(h:CE X.stack X.prog X.w H s Q u s'):EP X pins σ Q u s':=by
 obtain⟨v,H',os,bare,un,hok,r,q⟩:=h;obtain⟨hh,g,d,t,os'⟩:=s';obtain rfl:os'=s.os:=os;exact⟨v,H',I.call (h':=hh) (g':=g) (d':=d) (t':=t) (ch:=[]) un hok bare (λb z=>absurd z (by simp)),r,q⟩
end
def v62(sp:Sp)(dvs:List V)(E:XK)(t:TA):TE:=λσ H Q=>t σ H λvs H1=>sp (vs++dvs) H1 Q E
def Binds(K:Â)(fd:É3)(ps:List Str)(ds:List Ä):Prop :=
 ∀ (s:Æ) (us:List Ä),K.In s.heap->(us++ds).length=ps.length->BindsTo s fd ⟨us,[]⟩ (ps.zip (us++ds))
theorem Binds.all{K:Â}{fd:É3}{ps:List Str}(h:∀ us:List Ä,us.length=ps.length->bindArgs fd ⟨us,[]⟩=pure (ps.zip us)):Binds K fd ps []:=λs us _ hl=>by
 rw[Ë0] at hl ⊢;exact .of_eq (h us hl)
def Passes(CX:CXT)(X:Cx)(E:XK):Prop:=∀ (pins:List (È × Obj)) (σ:St) (H:Hp) (s:Æ) (e:Ä) (s':Æ),Inv X pins σ H s->CX X.stack H s E e s'->X.xe e s'
section
variable {X:Cx}{CX:CXT}{k:Nat}{f C:È}{fd:É3}{ps:List Str}{sp:Sp}{dvs:List V}{ds:List Ä}{E:XK}{x m:Str}{p pos apos:Pos}{e o:Ð}{es:List Ð}{ta:TE}{t:TA}
theorem f62{pins:List (È × Obj)}{σ:St}{H:Hp}{s:Æ}{Q:VK}{us:List Ä}{vs:List V}(F:i31 X.prog X.w X.K X.mg X.base CX k f fd ps sp)(hr:Q40 k X.A)(hb:Binds X.K fd ps ds)(hd:Vals dvs ds)(hx:Passes CX X E)
  (I:Inv X pins σ H s) (r:Vals vs us) (h:sp (vs++dvs) H Q E):Ñ (Ü X.prog X.w) X.A (call (.ref f) us) (EP X pins σ Q) X.xe s:=by
 have r2:Vals (vs++dvs) (us++ds):=r.append hd;have hl:(us++ds).length=ps.length:=by rw[← r2.length];exact F.len _ _ _ _ h
 refine wpAny_call (Ò6 (F.run X.A X.stack s H ⟨us,[]⟩ (us++ds) (vs++dvs) Q E hr I.K02 (hb s us I.kIn hl) r2 h) λr s' hq=>?_);cases r with
 |error e=>exact hx pins σ H s e s' I hq
 |ok fl =>
  cases fl with
  |ret u=>exact I.after hq|next=>exact Ä6 hq
  |brk=>exact Ä6 hq|cont=>exact Ä6 hq
theorem R31(F:i31 X.prog X.w X.K X.mg X.base CX k f fd ps sp)(hr:Q40 k X.A)(hg:Gl X x)(hm:X.mg x=some (.ref f))(hk:PySem.W.keepIn X.K (.ref f)=true)(hb:Binds X.K fd ps ds)(hd:Vals dvs ds)(hx:Passes CX X E)
  (ha:PA X (e::es) t) (hdb:(x == ("__debug__":Str))=false:=by decide) (he:ý (e::es) X.env=(false,eval e X.env)::ý es X.env:=by rfl) (hpl:(Ò7 pos (ý es X.env)).any (·.1)=false:=by rfl) :
  PE X (.Call (.Name x p) (e::es) [] pos) (v62 sp dvs E t):=by
 intro pins s σ H Q I h;refine Ø3 (W50 I hg hm ?_ hdb);refine PySem.W.callWith_K (h₀:=X.base) I.ok.mod.kin hk (thn (ha pos pins s σ H _ I h) λus s1 ⟨vs,H1,I1,r,q⟩=>⟨I1.kIn,?_⟩) he hpl;exact f62 F hr hb hd hx I1 r q
end
structure s70(N P:List Str)(sc:Scope):Prop where
 kind:sc.kind=.function
 co:sc.isCoroutine=false
 gen:sc.isGenerator=false
 nd:N.Nodup
 pre:N.take P.length=P
 par:∀ x∈P,sc.names.lookup x=some .local∨sc.names.lookup x=some .cell
 nofree:∀ y∈sc.names,y.2≠.free
theorem Q50{kindOf:Str->Option É2}{x:Str}:∀ {binds:List (Str × Ä)}{m:Str->Option Ä},(∀ v,(x,v) ∉ binds)->bindL kindOf binds m x=m x
 |[],_,_=>rfl
 |(n,v)::r,m,h=>by
  unfold bindL;rw[Q50 λw hw=>h w (Å _ hw)];split
  ·have:x≠n:=by rintro rfl;exact h v É
   simp[this]
  ·rfl
theorem Q60{kindOf:Str->Option É2}{x:Str}:∀ {binds:List (Str × Ä)}{m:Str->Option Ä},(∀ v,(x,v) ∉ binds)->bindC kindOf binds m x=m x
 |[],_,_=>rfl
 |(n,v)::r,m,h=>by
  unfold bindC;rw[Q60 λw hw=>h w (Å _ hw)];split
  ·rfl
  ·have:x≠n:=by rintro rfl;exact h v É
   simp[this]
theorem Q70{kindOf:Str->Option É2}{x:Str}{v:Ä}:∀ {P:List Str}{vs:List Ä}{i:Nat}{m:Str->Option Ä},P.Nodup->P[i]?=some x->vs[i]?=some v->kindOf x=some .local ->
  bindL kindOf (P.zip vs) m x=some v
 |[],_,_,_,_,h,_,_=>by simp at h|_::_,[],_,_,_,_,h,_=>by simp at h
 |p::P,w::vs,0,m,nd,h1,h2,hk=>by
  simp at h1 h2;subst h1;subst h2;show bindL kindOf ((p,w)::P.zip vs) m p=_;unfold bindL;rw[Q50 λv hv=>(Æ2.mp nd).1 (of_mem_zip hv).1,if_pos hk];simp
 |p::P,w::vs,i + 1,m,nd,h1,h2,hk=>by
  show bindL kindOf ((p,w)::P.zip vs) m x=_;unfold bindL;exact Q70 (i:=i) (Æ2.mp nd).2 (by simpa using h1) (by simpa using h2) hk
theorem Q80{kindOf:Str->Option É2}{x:Str}{v:Ä}:∀ {P:List Str}{vs:List Ä}{i:Nat}{m:Str->Option Ä},P.Nodup->P[i]?=some x->vs[i]?=some v->kindOf x≠some .local ->
  bindC kindOf (P.zip vs) m x=some v
 |[],_,_,_,_,h,_,_=>by simp at h|_::_,[],_,_,_,_,h,_=>by simp at h
 |p::P,w::vs,0,m,nd,h1,h2,hk=>by
  simp at h1 h2;subst h1;subst h2;show bindC kindOf ((p,w)::P.zip vs) m p=_;unfold bindC;rw[Q60 λv hv=>(Æ2.mp nd).1 (of_mem_zip hv).1,if_neg hk];simp
 |p::P,w::vs,i + 1,m,nd,h1,h2,hk=>by
  show bindC kindOf ((p,w)::P.zip vs) m x=_;unfold bindC;exact Q80 (i:=i) (Æ2.mp nd).2 (by simpa using h1) (by simpa using h2) hk
def start(N:List Str)(vs:List V):St:=vs.map some++æ (N.length - vs.length) none
def Q90(CX:CXT)(P:ã)(w:ü)(K:Â)(mg:Str->Option Ä)(base:õ)(N:List Str)(qual:Str)(scope:Á3)(f:È)(cd:Ä)(A:À3)(outer:List Env)(s:Æ)(H:Hp)(E:XK):Cx where
 prog:=P
 w:=w
 K:=K
 mg:=mg
 base:=base
 A:=A.deeper (Õ0 qual scope s.heap.objs.size f cd)
 N:=N
 s₀:=s
 H₀:=H
 env:=Õ0 qual scope s.heap.objs.size f cd
 outer:=outer
 stack:=Õ0 qual scope s.heap.objs.size f cd::outer
 ex:=[]
 calm:=true
 fn:=λ_=>true
 pn:=[]
 xe:=λe s'=>Ñ (Ü P w) (A.deeper (Õ0 qual scope s.heap.objs.size f cd)) (leaving (Õ0 qual scope s.heap.objs.size f cd) e) (λ_ s''=>CX outer H s E e s'') (λe' s''=>CX outer H s E e' s'') s'
theorem b51{sc:Á3}{n:Nat}{x:Str}(h:sc.names.lookup x=some .cell):∃ c,(cellsFrom n sc.names []).lookup x=some c:=by
 have q:=Û7 sc.names n [] (.inl h);exact Û3.mp q
theorem o31{CX:CXT}{P:ã}{w:ü}{K:Â}{mg:Str->Option Ä}{base:õ}{N ps:List Str}{qual:Str}{scope:Á3}{f:È}{cd:Ä}{A:À3}{outer:List Env}{s s1:Æ}{H:Hp}{E:XK}{us:List Ä}{vs:List V}
  (S:s70 N ps scope) (hd:A.handled=none) (e0:r62 P w K mg base A outer s H) (hl:vs.length=ps.length) (r:Vals vs us)
  (x:InCallC s s.heap.objs.size (bindL (Õ0 qual scope s.heap.objs.size f cd).kindOf (ps.zip us) λ_=>none) (cellsFrom (s.heap.objs.size + 1) scope.names []) (bindC (Õ0 qual scope s.heap.objs.size f cd).kindOf (ps.zip us) λ_=>none) s1) :
  Inv (Q90 CX P w K mg base N qual scope f cd A outer s H E) [] (start N vs) H s1:=by
 have hpl:ps.length<=N.length:=by have:=congrArg Ò2 S.pre;rw[Á7] at this;omega
 obtain⟨h1,tk,rfl,hk⟩:=x.done;have noA:∀ b:È,b ∉ (Q90 CX P w K mg base N qual scope f cd A outer s H E).ex:=λb z=>absurd (show b∈([]:List È) from z) (by simp)
 refine⟨⟨e0.mod,S.kind,rfl,rfl,Ì _,λy z c h1 h2=>?_,λy hy=>?_,λy c _ h=>?_,λ_=>hd,À3.frames_deeper e0.frames,.inr ⟨rfl,rfl⟩,λb z=>absurd z (noA b),e0.bs,e0.bsz,λb _ _=>noA b,λb z=>absurd z (noA b),e0.C31,e0.frf⟩,
  rfl,e0.bare,Un.kept hk,⟨_,x.toInCall.ns,λi y v h1 h2 h3=>?_⟩,λy c h=>⟨_,x.cell y c h⟩,e0.hok.fresh (Ì _),λy c h=>?_,λp hp=>absurd (show p∈([]:List (È × Obj)) from hp) (by simp),e0.hok.kept hk,?_⟩
 ·exact name_of_addr x.apart (Å2 h1) (Å2 h2)
 ·have hy:scope.names.lookup y=some .cell∨scope.names.lookup y=some .free:=hy;rcases hy with hy | hy
  ·exact b51 hy
  ·exact absurd rfl (S.nofree _ (Å2 hy))
 ·exact Ç5 (x.above y c (Å2 h))
 ·have hi:i < vs.length:=by
   unfold start at h2;by_cases hi:i < vs.length
   ·exact hi
   ·rw[À8 (by simpa using hi)] at h2
    rw[Ð1] at h2;split at h2 <;> cases h2
  have ha:vs[i]?=some v:=by
   unfold start at h2;rw[Ç6 (by simpa using hi),Ö] at h2
   cases e:vs[i]? with
   |none=>rw[e] at h2;cases h2
   |some a=>rw[e] at h2;cases h2;rfl
  obtain⟨u,hu,rv⟩:=r.get ha;have hp:ps[i]?=some y:=by
   rw[← S.pre,List.getElem?_take_of_lt ∅];exact h1
  have ndP:ps.Nodup:=by rw[← S.pre];exact S.nd.sublist (List.take_sublist _ _)
  refine⟨u,rv,?_⟩;rcases S.par y (é hp) with k | k
  ·exact .inl ⟨k,Q70 ndP hp hu k⟩
  ·obtain⟨c,e⟩:=b51 (n:=s.heap.objs.size + 1) k;refine .inr ⟨.inl k,c,e,?_⟩;have q:=x.cell y c e;rw[Q80 ndP hp hu (by show scope.names.lookup y≠_;rw[k];decide)] at q
   exact q
 ·exact e0.hok.fresh (Ç5 (x.above y c (Å2 h)))
 ·unfold start;show _=N.length;rw[À0,Ç,Ý3];omega
theorem v72{CX:CXT}{P:ã}{w:ü}{K:Â}{mg:Str->Option Ä}{base:õ}{k:Nat}{f:È}{name qual:Str}{params:Arguments}{body:List Ã9}{scope:Á3}{dV kV doc pm cdv ct oc:Ä}{an od:Option È}
  {osl:Array (Option Ä)}{N ps:List Str}{sp:Sp} (lk:K.lookup f=some ⟨oc,od,.func (fnOf name qual params body scope dV kV doc pm an cdv ct),osl⟩) (hcd:PySem.W.codeIn K cdv qual=true) (S:s70 N ps scope)
  (len:∀ vs H Q E,sp vs H Q E->vs.length=ps.length)
  (hbody:∀ (A:À3) (outer:List Env) (s:Æ) (H:Hp) (vs:List V) (Q:VK) (E:XK),Q40 k (A.deeper (Õ0 qual scope s.heap.objs.size f cdv))->sp vs H Q E ->
   ∃ t,PSs (Q90 CX P w K mg base N qual scope f cdv A outer s H E) body t/\t { nx:=λ_ H'=>Q .non H',rt:=Q } (start N vs) H) :
  i31 P w K mg base CX (k + 1) f (fnOf name qual params body scope dV kV doc pm an cdv ct) ps sp:=by
 refine⟨len,λA outer s H args us vs Q E hr e0 hb r hsp=>?_⟩;have hl:=len _ _ _ _ hsp;have KX:K.In s.heap:=e0.mod.kin.keeps λb o e=>(e0.bs b o e).1;have lim:s.heap.NoLimit:=e0.mod.nolimit.keeps λb o e=>(e0.bs b o e).1;have hkind:∀ y∈ps.zip us,scope.names.lookup y.1=some .local∨(scope.names.lookup y.1=some .cell/\((cellsFrom (s.heap.objs.size + 1) scope.names []).lookup y.1).isSome=true):=λ⟨n,v⟩ hy=>by
  rcases S.par n (of_mem_zip hy).1 with q | q
  ·exact .inl q
  ·exact .inr ⟨q,Û7 _ _ _ (.inl q)⟩
 refine codeAny_call_function hr.depth (KX _ _ lk) rfl S.co S.gen rfl (PySem.W.codeRec_of KX hcd) (hb _ _ _ _ ?_);refine wpAny_newFunctionEnv_cells S.kind hkind λenv he s1 x=>?_;subst he;refine⟨lim.keeps x.toInCall.keep,codeAny_func ?_⟩;obtain⟨t,ht,hq⟩:=hbody A outer s H vs Q E (hr.deeper _) hsp;have I:Inv (Q90 CX P w K mg base N qual scope f cdv A outer s H E) [] (start N vs) H s1:=o31 S hr.hd e0 hl r x;refine Ä4 (ht [] s1 (start N vs) H _ I hq) (λfl s' hs=>?_) λe s' hs=>hs;have fin:∀ {σ':St}{H':Hp}{v:V}{u:Ä},Inv (Q90 CX P w K mg base N qual scope f cdv A outer s H E) [] σ' H' s'->RelV v u->Q v H'->CE outer P w H s Q u s' :=
  λ{σ' H' v u} J rv q=>⟨v,H',J.os,J.bare,J.base,J.hok,rv,q⟩
 cases fl with
 |ret u =>
  obtain⟨v,σ',H',J,rv,q⟩:=hs;exact fin J rv q
 |next =>
  obtain⟨σ',H',J,q⟩:=hs;exact fin (v:=V.non) (u:=å) J rfl q
 |brk =>
  obtain⟨_,_,_,q⟩:=hs;exact Ä6 q
 |cont =>
  obtain⟨_,_,_,q⟩:=hs;exact Ä6 q
section
variable {X:Cx}{x:Str}{p pos:Pos}{e:Ð}{es:List Ð}{t:TA}{id T:String}{r:List V->Hp->VK->Prop}
def tCB(r:List V->Hp->VK->Prop)(t:TA):TE:=λσ H Q=>t σ H λvs H1=>r vs H1 Q
theorem J10(hc:g60 X (.builtin id) r)(hg:Gl X x)(hm:X.mg x=none)(hv:í x=some (.builtin id))(ha:PA X (e::es) t)(hn:x≠"__name__":=by decide)(hdb:(x == ("__debug__":Str))=false:=by decide)
  (he:ý (e::es) X.env=(false,eval e X.env)::ý es X.env:=by rfl) (hpl:(Ò7 pos (ý es X.env)).any (·.1)=false:=by rfl):PE X (.Call (.Name x p) (e::es) [] pos) (tCB r t):=by
 intro pins s σ H Q I h;refine Ø3 (u90 I hg hm hv ?_ hn hdb);exact PyProof.Rows.callWith_builtin1 (thn (ha pos pins s σ H _ I h) λus s1 ⟨vs,H1,I1,r1,q1⟩=>hc pins s1 σ H1 vs us Q I1 r1 q1) he hpl
theorem R00(hc:g60 X (.type T) r)(hg:Gl X x)(hm:X.mg x=none)(hv:í x=some (.type T))(ha:PA X (e::es) t)(hn:x≠"__name__":=by decide)(hdb:(x == ("__debug__":Str))=false:=by decide)
  (he:ý (e::es) X.env=(false,eval e X.env)::ý es X.env:=by rfl) (hpl:(Ò7 pos (ý es X.env)).any (·.1)=false:=by rfl):PE X (.Call (.Name x p) (e::es) [] pos) (tCB r t):=by
 intro pins s σ H Q I h;refine Ø3 (u90 I hg hm hv ?_ hn hdb);exact À4 (thn (ha pos pins s σ H _ I h) λus s1 ⟨vs,H1,I1,r1,q1⟩=>hc pins s1 σ H1 vs us Q I1 r1 q1) he hpl
end
end L2
namespace HT
open PySem PyProof.Rows
theorem D51(A:À3)(s:Æ)(a:Int)(t:Tok)(c:Int)(u:Tok):∃ e,Ô2 A s (.int a t) (.int c u) e/\(e=true↔a=c) :=
 ⟨(a == c),Ô2.int_int a t c u,by simp⟩
theorem b61(A:À3)(s:Æ)(a:Int)(t:Tok)(c:Int)(u:Tok)(prog:ã)(w:ü)(E:Ä->Æ->Prop)(Q:Ä->Æ->Prop)(h:Q (.bool (decide (a < c))) s) :
  Ñ (Ü prog w) A (richCompare .Lt (.int a t) (.int c u)) Q E s :=
 (lt_int h:Ñ (Ü prog w) A (ú .Lt (.int a t) (.int c u)) Q E s)
section
variable {prog:ã}{w:ü}{A:À3}{E:Ä->Æ->Prop}{s:Æ}
theorem R41{t b:È}{vs ws:List Ä}{Q:Ä->Æ->Prop}(ht:Í0 s.heap t vs.toArray)(hb:Í0 s.heap b ws.toArray)(hv:vs≠[])
  (h1:ws=[]->Q (.ref t) s) (h2:ws≠[]->Q (.ref s.heap.objs.size) { s with heap:=s.heap.push { cls:=.type "tuple",data:=.seq (vs++ws).toArray } })
  (hsz:vs.length + ws.length<=sizeLine):Ñ (Ü prog w) A (Ã6 .Add (.ref t) (.ref b)) Q E s:=by
 obtain⟨⟨cls,dd,data,sl⟩,ho,hc,n,hd⟩:=id ht;obtain⟨⟨cls2,dd2,data2,sl2⟩,ho2,hc2,n2,hd2⟩:=id hb;simp only at hc hd hc2 hd2;subst hc hd hc2 hd2;have e:vs.toArray++ws.toArray=(vs++ws).toArray:=by simp
 by_cases hw:ws=[]
 ·exact concat_meets ⟨_,ho,rfl⟩ ⟨_,ho2,rfl⟩ Û5 seq_tuple_add Ï5 Î8 (Í9 _ _)
   (tuple_addW1 t b vs.toArray ws.toArray n n2 dd dd2 sl sl2 (by simpa using hv) (by simp[hw])) ⟨ho,ho2,h1 hw⟩
 ·refine concat_meets ⟨_,ho,rfl⟩ ⟨_,ho2,rfl⟩ Û5 seq_tuple_add Ï5 Î8 (Í9 _ _)
   (tuple_addW2 t b vs.toArray ws.toArray n n2 dd dd2 sl sl2 (by simpa using hv) (by simpa using hw) (by rw[Ô,Ô];exact hsz)) ⟨ho,ho2,?_⟩
  rw[e];exact h2 hw
def sIx(n d:Nat):Option Int->Nat
 |none=>d|some v=>if v < 0 then(v + (n:Int)).toNat else min v.toNat n
theorem J20(n d k:Nat):sIx n d (some (k:Int))=min k n:=by
 show(if (k:Int) < 0 then((k:Int) + (n:Int)).toNat else min (k:Int).toNat n)=min k n;rw[if_neg ∅,Â3]
theorem f72(n d:Nat)(hd:d<=n)(o:Option Int):sIx n d o<=n:=by
 cases o with
 |none=>exact hd
 |some v =>
  show(if v < 0 then(v + (n:Int)).toNat else min v.toNat n)<=n;by_cases hv:v < 0
  ·rw[if_pos hv];omega
  ·rw[if_neg hv];exact Nat.min_le_right _ _
theorem o41(v:Int)(n d:Nat):(if v < 0 then max (v + (n:Int)) 0 else min v (n:Int))=((sIx n d (some v):Nat):Int):=by
 show(if v < 0 then max (v + (n:Int)) 0 else min v (n:Int))=(((if v < 0 then(v + (n:Int)).toNat else min v.toNat n):Nat):Int);by_cases hv:v < 0
 ·simp only[if_pos hv];omega
 ·simp only[if_neg hv];omega
theorem i41(lo hi:Option Int)(n:Nat):Ë5 lo hi 1 (n:Int)=(((sIx n 0 lo:Nat):Int),((sIx n n hi:Nat):Int)):=by
 have h1:¬ ((1:Int) < 0):=by omega
 unfold Ë5;simp only[h1,if_false];refine Prod.ext ?_ ?_
 ·cases lo with
  |none=>rfl|some v=>exact o41 v n 0
 ·cases hi with
  |none=>rfl|some v=>exact o41 v n n
theorem i51(i j:Nat):Ç2 (i:Int) (j:Int) 1=j - i:=by
 unfold Ç2;have h1:(1:Int) > 0:=by omega
 simp only[h1,if_true,Int.ediv_one];split <;> omega
theorem H30{v:Ä}{o:Option Int}{Q:Option Int->Æ->Prop}(p:Õ4 v o)(h:Q o s):Ñ (Ü prog w) A (Å6.Slice.slicePartIndex v) Q E s:=by
 cases p with
 |none=>exact Ô8 h|int i t=>exact slicePart_int h
theorem n90{sl:È}{vl vu:Ä}{lo hi:Option Int}{n:Nat}{Q:Int × Int × Nat->Æ->Prop}(hs:s.heap.IsSliceOf sl vl vu .none)(pl:Õ4 vl lo)(pu:Õ4 vu hi)
  (h:Q (((sIx n 0 lo:Nat):Int),1,sIx n n hi - sIx n 0 lo) s):Ñ (Ü prog w) A (Ñ1 (.ref sl) (pure (n:Int))) Q E s:=by
 obtain⟨os,hos,hcs,hds⟩:=id hs;unfold Ñ1 sliceFields;refine Á (Á (À7 hos hds (x:=vl) rfl (Á (À7 hos hds (x:=vu) rfl (Á (À7 hos hds (x:=.none) rfl (Ê ?_)))))));refine Á (Ô8 ?_);show Ñ _ _ (if ((1:Int) == 0)=true then _ else _) _ _ s;rw[if_neg (-0)]
 refine Á (H30 pl (Á (H30 pu (Á (Ê ?_)))));show Ñ _ _ (match Ë5 lo hi 1 (n:Int) with | (lo,hi)=>pure (lo,(1:Int),Ç2 lo hi 1)) _ _ s
 rw[i41 lo hi n];show Ñ _ _ (pure (((sIx n 0 lo:Nat):Int),(1:Int),Ç2 ((sIx n 0 lo:Nat):Int) ((sIx n n hi:Nat):Int) 1)) _ _ s;rw[i51];exact Ê h
theorem D61(xs:Array Ä)(i k:Nat):((Û k).filterMap λ(m:Nat)=>xs[((i:Int) + (m:Int) * 1).toNat]?).toArray=((xs.toList.drop i).take k).toArray:=by
 have e:(λ(m:Nat)=>xs[((i:Int) + (m:Int) * 1).toNat]?)=λm=>xs[i + m]?:=by
  funext m
  have:((i:Int) + (m:Int) * 1).toNat=i + m:=by omega
  rw[this]
 rw[e];have:=pick_run xs i k;rw[List.filterMap_map] at this;have e2:((λx=>xs[x]?) ∘ λx=>i + x)=λm=>xs[i + m]?:=rfl;rw[e2] at this;rw[this]
theorem y00{t sl:È}{items:Array Ä}{vl vu:Ä}{lo hi:Option Int}{Q:Ä->Æ->Prop}(ht:Í0 s.heap t items)(hs:s.heap.IsSliceOf sl vl vu .none)(pl:Õ4 vl lo)(pu:Õ4 vu hi)
  (hw:¬ (sIx items.size 0 lo=0/\sIx items.size items.size hi=items.size))
  (h:Q (.ref s.heap.objs.size) { s with heap:=s.heap.push { cls:=.type "tuple",data:=.seq ((items.toList.drop (sIx items.size 0 lo)).take (sIx items.size items.size hi - sIx items.size 0 lo)).toArray } })
  (hsz:items.size<=sizeLine):Ñ (Ü prog w) A (Ð8 (.ref t) (.ref sl)) Q E s:=by
 have htake:sizeOk (.seq ((items.toList.drop (sIx items.size 0 lo)).take (sIx items.size items.size hi - sIx items.size 0 lo)).toArray):=by
  show((items.toList.drop (sIx items.size 0 lo)).take (sIx items.size items.size hi - sIx items.size 0 lo)).toArray.size<=sizeLine;rw[Ô,Á7,Ç3,È6];omega
 have hj:sIx items.size items.size hi<=items.size:=f72 _ _ (Ì _) hi;obtain⟨os,hos,hcs,hds⟩:=id hs;have hTs:s.TypeIs (.ref sl) "slice":=⟨os,hos,hcs⟩;unfold Ð8
 try with_reducible refine Ç0 ?_
 first | refine Á (Ê ?_) | skip
 refine Á (Ù6 ht.typeIs (-0) ?_)
 refine Á (Â1 (name:=Á5 "__getitem__") ht.typeIs ï
  (Ä2 ï ht.typeIs entry_tuple_getitem ?_ (Ø6 _ _)))
 show Ñ _ _ (tupleItemsOf (.ref t) >>= _) _ _ s;refine Á (tupleItemsOf_ ht ?_);refine Á (Ê3 hTs ?_);rw[if_pos (-0)]
 refine Á (n90 hs pl pu ?_);have hno:¬ ((((sIx items.size 0 lo:Nat):Int) == 0&&(1:Int) == 1&&(sIx items.size items.size hi - sIx items.size 0 lo) == items.size)=true):=by
  intro q;rw[À,À] at q;have q1:((sIx items.size 0 lo:Nat):Int)=0:=eq_of_beq q.1.1;have q2:sIx items.size items.size hi - sIx items.size 0 lo=items.size:=eq_of_beq q.2;exact hw ⟨by omega,by omega⟩
 show Ñ _ _ (if (((sIx items.size 0 lo:Nat):Int) == 0&&(1:Int) == 1&&(sIx items.size items.size hi - sIx items.size 0 lo) == items.size)=true then _ else _) _ _ s;rw[if_neg hno,D61]
 first
  |exact Á (m:=Å0 _) (ò (Ê ⟨_,rfl,Ê h⟩) htake)
  |exact Á (m:=Å0 _) (ò (Á (Ê (Ê ⟨_,rfl,Ê h⟩))) htake)
  |exact Á (Á (m:=Å0 _) (ò (Ê (Ê ⟨_,rfl,Ê h⟩)) htake))
  |exact Á (Á (m:=Å0 _) (ò (Ê ⟨_,rfl,Ê h⟩) htake))
end
end HT
namespace L2
open PySem PySem.Spec PyProof.Rows
abbrev TO:=St->Hp->(Option Int->Hp->Prop)->Prop
def PO(X:Cx)(e:Option Ð)(t:TO):Prop :=
 ∀ (pins:List (È × Obj)) (s:Æ) (σ:St) (H:Hp) (Q:Option Int->Hp->Prop),Inv X pins σ H s->t σ H Q ->
  Ñ (Ü X.prog X.w) X.A (evalPart e X.env) (λu s'=>∃ o H',Inv X pins σ H' s'/\Õ4 u o/\Q o H') X.xe s
def R51:TO:=λ_ H Q=>Q none H
def v82(t:TE):TO:=λσ H Q=>t σ H λx H1=>∃ i,x=.int i/\Q (some i) H1
theorem intsAre_of{ns:List Int}:∀ {us:List Ä},Vals (ns.map V.int) us->É5 us ns:=by
 induction ns with
 |nil=>intro us r;rw[map_nil] at r;cases r;exact .nil
 |cons n ns ih =>
  intro us r;rw[Â0] at r;cases r with
  |cons r1 r2 =>
   obtain⟨t,e⟩:=r1;subst e;exact .cons n t (ih r2)
section
variable {X:Cx}{e:Ð}{te:TE}{lo hi:Option Ð}{tl th:TO}{pos p2:Pos}
theorem R61:PO X none R51:=by
 intro pins s σ H Q I h;rw[evalPart_none];exact Ê ⟨none,H,I,.none,h⟩
theorem R71(h:PE X e te):PO X (some e) (v82 te):=by
 intro pins s σ H Q I hw;rw[evalPart_some];refine thn (h pins s σ H _ I hw) λu s1 ⟨x,H1,I1,r1,q1⟩=>?_;obtain⟨i,rfl,q⟩:=q1;obtain⟨t,rfl⟩:=r1;exact⟨some i,H1,I1,.int i t,q⟩
def SlR(X:Cx)(r:V->Option Int->Option Int->Hp->VK->Prop):Prop :=
 ∀ (pins:List (È × Obj)) (s:Æ) (σ:St) (H:Hp) (x:V) (v vl vu:Ä) (lo hi:Option Int) (sl:È) (Q:VK),Inv X pins σ H s->RelV x v->s.heap.IsSliceOf sl vl vu .none->Õ4 vl lo->Õ4 vu hi->r x lo hi H Q ->
  ∃ T id,typeLookup (.type T) "__getitem__"=pure (some (.builtin id))/\s.TypeIs v T/\Ñ (Ü X.prog X.w) X.A (Ð8 v (.ref sl)) (EP X pins σ Q) X.xe s
def tSl(r:V->Option Int->Option Int->Hp->VK->Prop)(te:TE)(tl th:TO):TE:=λσ H Q=>te σ H λx H1=>tl σ H1 λl H2=>th σ H2 λu H3=>r x l u H3 Q
theorem D71{r:V->Option Int->Option Int->Hp->VK->Prop}(hr:SlR X r)(he:PE X e te)(hl:PO X lo tl)(hu:PO X hi th):PE X (.Subscript e (.Slice lo hi none p2) pos) (tSl r te tl th):=by
 intro pins s σ H Q I h;refine Subscript_ (thn (he pins s σ H _ I h) λv s1 ⟨x,H1,I1,r1,q1⟩=>?_);refine wpAny_Slice (thn (hl pins s1 σ H1 _ I1 q1) λvl s2 ⟨l,H2,I2,pl,q2⟩=>thn (hu pins s2 σ H2 _ I2 q2) λvu s3 ⟨u,H3,I3,pu,q3⟩=>?_);rw[evalPart_none];refine Ê ?_;have I4:Inv X pins σ H3 { s3 with heap:=s3.heap.push { cls:=.type "slice",data:=.fields #[vl,vu,.none] } }:=I3.kept (t':=s3.toks) λb ob q=>Ã _ q;obtain⟨T,id,hT,ht,hg⟩:=hr pins { s3 with heap:=s3.heap.push { cls:=.type "slice",data:=.fields #[vl,vu,.none] } } σ H3 x v vl vu l u s3.heap.objs.size Q I4 r1 (Ð3 ..) pl pu q3;show Ñ (Ü X.prog X.w) X.A (subscriptTail e (.Slice lo hi none p2) v (.ref s3.heap.objs.size)) (EP X pins σ Q) X.xe { s3 with heap:=s3.heap.push { cls:=.type "slice",data:=.fields #[vl,vu,.none] } };exact tail_any (ops:=[.ref s3.heap.objs.size,v]) ht hT hg (by with_unfolding_all rfl)
def D81(xs:List V)(lo hi:Option Int):List V:=(xs.drop (HT.sIx xs.length 0 lo)).take (HT.sIx xs.length xs.length hi - HT.sIx xs.length 0 lo)
theorem D10(xs:List V)(lo hi:Option Int):(D81 xs lo hi).length<=xs.length:=by
 unfold D81;rw[Á7,Ç3];omega
theorem Vals.J30{xs:List V}{us:List Ä}(r:Vals xs us):us=[]↔xs=[]:=by
 cases r with
 |nil=>simp|cons _ _=>simp
end
def ixN(n:Nat)(i:Int):Option Nat:=if 0<=i then(if i < n then some i.toNat else none) else if -(n:Int)<=i then some (i + n).toNat else none
def atI{α:Type}(xs:List α)(i:Int):Option α:=(ixN xs.length i).bind λj=>xs[j]?
theorem o51{n:Nat}{i:Int}{j:Nat}(h:ixN n i=some j):seqIndex? i n=some j/\j < n/\-(n:Int)<=i/\i < n:=by
 unfold ixN at h;by_cases h0:0<=i
 ·rw[if_pos h0] at h;by_cases h1:i < n
  ·rw[if_pos h1] at h;have e:i.toNat=j:=À1 h;exact⟨by rw[Ü0 h0 h1,e],by omega,by omega,h1⟩
  ·rw[if_neg h1] at h;cases h
 ·rw[if_neg h0] at h;by_cases h1:-(n:Int)<=i
  ·rw[if_pos h1] at h;have e:(i + n).toNat=j:=À1 h;exact⟨by rw[seqIndex_neg ∅ h1,e],by omega,h1,by omega⟩
  ·rw[if_neg h1] at h;cases h
theorem W90{α:Type}{xs:List α}{i:Int}{v:α}(h:atI xs i=some v):∃ j,seqIndex? i xs.length=some j/\xs[j]?=some v/\j < xs.length/\-(xs.length:Int)<=i/\i < xs.length:=by
 unfold atI at h;cases e:ixN xs.length i with
 |none=>rw[e] at h;cases h
 |some j =>
  rw[e] at h;obtain⟨h1,h2,h3,h4⟩:=o51 e;exact⟨j,h1,h,h2,h3,h4⟩
theorem J40{α:Type}{xs:List α}{j:Nat}{v:α}(h:xs[j]?=some v):atI xs (j:Int)=some v:=by
 have hj:j < xs.length:=(ä.mp h).1;have e:ixN xs.length (j:Int)=some j:=by
  unfold ixN;rw[if_pos ∅,if_pos ∅];simp
 unfold atI;rw[e];exact h
def o61(b:Ð):Prop:=∀ o i,subscripted b false o i=operate [o,i] (Ð8 o i)
def IxR(X:Cx)(r:R2):Prop :=
 ∀ (value slice:Ð) (pins:List (È × Obj)) (s:Æ) (σ:St) (H:Hp) (x y:V) (v u:Ä) (Q:VK),Inv X pins σ H s->RelV x v->RelV y u->r x y H Q ->
  subscripted slice false v u=operate [v,u] (Ð8 v u)->Ñ (Ü X.prog X.w) X.A (subscriptTail value slice v u) (EP X pins σ Q) X.xe s
def MtR(X:Cx)(id:String)(r:V->List V->Hp->VK->Prop):Prop :=
 ∀ (pins:List (È × Obj)) (s:Æ) (σ:St) (H:Hp) (x:V) (xs:List V) (v:Ä) (us:List Ä) (Q:VK),Inv X pins σ H s->RelV x v->Vals xs us->r x xs H Q ->
  Ñ (Ü X.prog X.w) X.A (call (.builtin id) (v::us)) (EP X pins σ Q) X.xe s
section
variable {X:Cx}{a b:Ð}{ta tb:TE}{pos:Pos}
theorem f82{r:R2}(hr:IxR X r)(ha:PE X a ta)(hb:PE X b tb)(hs:o61 b):PE X (.Subscript a b pos) (tOp r ta tb):=by
 intro pins s σ H Q I h;exact Subscript_ (u62 ha hb I h λv u s2 x y H2 I2 rx ry q=>hr a b pins s2 σ H2 x y v u Q I2 rx ry q (hs _ _))
def F82(K:Â):R2:=λx y H Q=>∃ p xs i v,x=.ref p/\y=.int i/\SqL K H p xs/\atI xs i=some v/\Q v H
def K12(K:Â):R2:=λx y H Q=>∃ p xs i v,x=.ref p/\y=.int i/\SqT K H p xs/\atI xs i=some v/\Q v H
theorem o71:IxR X (F82 X.K):=by
 intro value slice pins s σ H x y v u Q I rx ry h hs;obtain⟨p,xs,i,z,rfl,rfl,hq,he,q⟩:=h;cases rx;obtain⟨t,rfl⟩:=ry;obtain⟨its,r,pl,hz⟩:=I.list hq;obtain⟨j,h1,h2,h3,h4,h5⟩:=W90 he;obtain⟨w,ew,rw'⟩:=r.get h2;have hl:=r.length;have hn:=Q20;have fin:EP X pins σ Q w s:=⟨z,H,I,rw',q⟩;by_cases h0:0<=i
 ·have hj:i.toNat=j:=by
   rw[Ü0 h0 h5] at h1;exact À1 h1
  exact item_listR pl.isList h0 ∅ (by rw[hj];simpa using ew) fin hs
 ·have hj:(i + (its.toArray.size:Int)).toNat=j:=by
   rw[seqIndex_neg ∅ h4] at h1
   rw[Ô,← hl];exact À1 h1
  exact subscriptTail_builtinR (x:=w) pl.isList.typeIs slot_list_getitem.lookup
   (wpAny_getItem_list_neg (Q:=λr s'=>r=w/\EP X pins σ Q r s') pl.isList ∅ (by rw[Ô] <;> omega) ∅ (by rw[hj];simpa using ew) ⟨rfl,fin⟩) hs
theorem f92:IxR X (K12 X.K):=by
 intro value slice pins s σ H x y v u Q I rx ry h hs;obtain⟨p,xs,i,z,rfl,rfl,hq,he,q⟩:=h;cases rx;obtain⟨t,rfl⟩:=ry;obtain⟨its,r,pl,hz⟩:=I.tuple hq;obtain⟨j,h1,h2,h3,h4,h5⟩:=W90 he;obtain⟨w,ew,rw'⟩:=r.get h2;have hl:=r.length;have hn:=Q20;have fin:EP X pins σ Q w s:=⟨z,H,I,rw',q⟩;exact subscriptTail_builtinR (x:=w) pl.typeIs slot_tuple_getitem.lookup
  (getItem_tuple (j:=j) (Q:=λr s'=>r=w/\EP X pins σ Q r s') pl ∅ ∅ (by rw[Ô,← hl];exact h1) (by simpa using ew) ⟨rfl,fin⟩) hs
theorem i61(its:List Ä)(n j:Nat)(u:Ä):À9 (·.setIfInBounds j u) { cls:=.type "list",data:=.seq its.toArray n }={ cls:=.type "list",data:=.seq (its.set j u).toArray n }:=by
 simp[À9]
theorem Inv.lst{pins:List (È × Obj)}{σ:St}{H:Hp}{s:Æ}{p:È}{xs:List V}(I:Inv X pins σ H s)(h:H p=some (.lst xs)) :
  ∃ (its:List Ä) (n:Nat),Vals xs its/\s.heap.get? p=some { cls:=.type "list",data:=.seq its.toArray n }/\xs.length<=sizeLine:=by
 obtain⟨z,its,n,r,e⟩:=I.hok p _ h;exact⟨its,n,r,e,z⟩
theorem Inv.g02{pins:List (È × Obj)}{σ:St}{H:Hp}{s:Æ}{p:È}{xs ys:List V}{its its':List Ä}{n n':Nat}{f:Obj->Obj}(I:Inv X pins σ H s)(h:H p=some (.lst xs))
  (ho:s.heap.get? p=some { cls:=.type "list",data:=.seq its.toArray n }) (hf:f { cls:=.type "list",data:=.seq its.toArray n }={ cls:=.type "list",data:=.seq its'.toArray n' }) (r:Vals ys its') (hz:ys.length<=sizeLine) (t:Nat) :
  Inv X pins σ (upd H p (.lst ys)) { s with heap:=s.heap.update p f,toks:=t }:=by
 have e:(s.heap.update p f).get? p=some { cls:=.type "list",data:=.seq its'.toArray n' }:=by
  rw[Ý4 f ho (by rw[hf] <;> rfl),hf]
 refine I.write (x:=p) (e:=p) (by rw[h];trivial) (.inl rfl) (λb u hb q=>(Ü9 _ _ (À6 hb)).trans q) ⟨_,e⟩ ?_
 exact⟨hz,its',n',r,e⟩
def v92:V->V->V->Hp->(Hp->Prop)->Prop:=λo i v H Q=>∃ p xs k j,o=.ref p/\i=.int k/\H p=some (.lst xs)/\ixN xs.length k=some j/\Q (upd H p (.lst (xs.set j v)))
theorem set_list:u12 X v92:=by
 intro pins s σ H o i v ov iv u Q I ro ri rv h;obtain⟨p,xs,k,j,rfl,rfl,hp,hj,q⟩:=h;cases ro;obtain⟨t,rfl⟩:=ri;obtain⟨its,n,r,ho,hz⟩:=I.lst hp;obtain⟨h1,h2,h3,h4⟩:=o51 hj;have hl:=r.length;have hn:=Q20;have I':Inv X pins σ (upd H p (.lst (xs.set j v))) { s with heap:=s.heap.update p (À9 (·.setIfInBounds j u)) } :=
  I.g02 hp ho (i61 its n j u) (r.set rv j) (by rw[û];exact hz) s.toks
 by_cases h0:0<=k
 ·have hk:k.toNat=j:=by
   rw[Ü0 h0 h4] at h1;exact À1 h1
  exact PySem.W.ki_setAt ho h0 ∅ (by rw[Ô,← hl];exact h4) (by rw[hk];exact⟨_,I',q⟩)
 ·have hk:(k + (its.toArray.size:Int)).toNat=j:=by
   rw[seqIndex_neg ∅ h3] at h1
   rw[Ô,← hl];exact À1 h1
  exact PySem.W.ki_setBack ho ∅ (by rw[Ô,← hl];exact h3) ∅ (by rw[hk];exact⟨_,I',q⟩)
theorem R10(lo hi:Option Int)(n:Nat):(Ì6 lo hi none n).1=((HT.sIx n 0 lo:Nat):Int)/\(Ì6 lo hi none n).2.1=((HT.sIx n n hi:Nat):Int)/\(Ì6 lo hi none n).2.2=1:=by
 refine⟨?_,?_,rfl⟩
 ·cases lo with
  |none=>simp[Ì6,HT.sIx]
  |some i =>
   simp only[Ì6,HT.sIx,getD_none,show(1:Int) > 0 by decide,if_true]
   by_cases h:i < 0
   ·simp only[h,if_true] <;> omega
   ·simp only[h,if_false] <;> omega
 ·cases hi with
  |none=>simp[Ì6,HT.sIx]
  |some i =>
   simp only[Ì6,HT.sIx,getD_none,show(1:Int) > 0 by decide,if_true]
   by_cases h:i < 0
   ·simp only[h,if_true] <;> omega
   ·simp only[h,if_false] <;> omega
theorem J50(its:List Ä)(lo hi:Option Int):slicePick its.toArray lo hi none=((its.drop (HT.sIx its.length 0 lo)).take (HT.sIx its.length its.length hi - HT.sIx its.length 0 lo)).toArray:=by
 obtain⟨h1,h2,h3⟩:=R10 lo hi its.toArray.size;unfold slicePick;rw[h1,h2,h3];simp only[sliceRange_one,pick_run,Ô] <;> rfl
def K22(K:Â):V->Option Int->Option Int->Hp->VK->Prop:=λx lo hi H Q=>∃ a xs,x=.ref a/\SqL K H a xs/\∀ p,H p=none->Q (.ref p) (upd H p (.lst (D81 xs lo hi)))
theorem R81:SlR X (K22 X.K):=by
 intro pins s σ H x v vl vu lo hi sl Q I rx hs pl pu h;obtain⟨a,xs,rfl,hx,q⟩:=h;cases rx;obtain⟨its,r,ht,hz⟩:=I.list hx;have hlen:=r.length;refine⟨"list",_,slot_list_getitem.lookup,ht.isList.typeIs,?_⟩;refine wpAny_getItem_list_slice ht.isList hs pl pu .none (by simp) ?_ (by rw[Ô] <;> omega)
 rw[J50,← hlen];refine⟨.ref s.heap.objs.size,_,I.laid (t':=s.toks) (o:=.lst (D81 xs lo hi)) (λb ob q=>Ã _ q) (Ì _) ?_,rfl,q _ (I.hok.fresh (Ì _))⟩;exact⟨Ù (D10 xs lo hi) hz,_,0,(r.drop (HT.sIx xs.length 0 lo)).take (HT.sIx xs.length xs.length hi - HT.sIx xs.length 0 lo),Ï _ rfl⟩
theorem R20:g60 X (.builtin "len") (λxs H Q=>∃ p ys,xs=[.ref p]/\(SqL X.K H p ys∨SqT X.K H p ys)/\Q (.int ys.length) H):=by
 intro pins s σ H xs us Q I r h;obtain⟨p,ys,rfl,hq,q⟩:=h;obtain⟨u,rfl,rx⟩:=vals1 r;cases rx;have hn:=Q20;rcases hq with hq | hq
 ·obtain⟨its,r',pl,hz⟩:=I.list hq;have hlen:=r'.length;exact Calls.call_len_list pl.isList (by simp only[Ô] <;> omega) ⟨.int ys.length,H,I.tok _,⟨s.toks + 1,by rw[Ô,hlen]⟩,q⟩
 ·obtain⟨its,r',pl,hz⟩:=I.tuple hq;have hlen:=r'.length;exact len_tuple pl (by simp only[Ô] <;> omega) ⟨.int ys.length,H,I.tok _,⟨s.toks + 1,by rw[Ô,hlen]⟩,q⟩
theorem R30:g60 X (.type "list") (λxs H Q=>∃ p ys,xs=[.ref p]/\(SqL X.K H p ys∨SqT X.K H p ys)/\∀ l,H l=none->Q (.ref l) (upd H l (.lst ys))):=by
 intro pins s σ H xs us Q I r h;obtain⟨p,ys,rfl,hq,q⟩:=h;obtain⟨u,rfl,rx⟩:=vals1 r;cases rx;have fin:∀ (its:List Ä),Vals ys its->ys.length<=sizeLine->∀ (h':õ) (c':Nat),(∀ b o',s.heap.get? b=some o'->h'.get? b=some o') ->
   h'.get? s.heap.objs.size=some { cls:=.type "list",dict:=none,data:=.seq its.toArray c',slots:=#[] }->EP X pins σ Q (.ref s.heap.objs.size) { s with heap:=h' }:=λits r' hz h' c' kp e =>
  ⟨.ref s.heap.objs.size,_,I.laid (t':=s.toks) kp (Ì _) (show i80 X.prog X.w _ h' _ (.lst ys) from⟨hz,its,c',r',e⟩),rfl,q _ (I.hok.fresh (Ì _))⟩
 rcases hq with hq | hq
 ·obtain⟨its,r',pl,hz⟩:=I.list hq;have hlen:=r'.length;obtain⟨o,ho,hc,n,hd⟩:=pl.isList;exact call_list_seq p (.inl rfl) ho hc hd (λh' c' kp e=>fin its r' hz h' c' kp e) (by simp only[Ô] <;> omega)
 ·obtain⟨its,r',pl,hz⟩:=I.tuple hq;have hlen:=r'.length;obtain⟨o,ho,hc,n,hd⟩:=pl;exact call_list_seq p (.inr rfl) ho hc hd (λh' c' kp e=>fin its r' hz h' c' kp e) (by simp only[Ô] <;> omega)
theorem v40:g60 X (.type "tuple") (λxs H Q=>∃ p ys,xs=[.ref p]/\((SqL X.K H p ys/\∀ l,H l=none->Q (.ref l) (upd H l (.tup ys)))∨(SqT X.K H p ys/\Q (.ref p) H))):=by
 intro pins s σ H xs us Q I r h;obtain⟨p,ys,rfl,h⟩:=h;obtain⟨u,rfl,rx⟩:=vals1 r;cases rx;rcases h with ⟨hq,q⟩ | ⟨hq,q⟩
 ·obtain⟨its,r',pl,hz⟩:=I.list hq;have hlen:=r'.length;refine call_tuple_list pl.isList (λh' kp=>?_) (by simp only[Ô] <;> omega)
  have I1:Inv X pins σ H { s with heap:=h' }:=I.kept (t':=s.toks) kp;have I2:Inv X pins σ (upd H h'.objs.size (.tup ys)) { s with heap:=h'.push { cls:=.type "tuple",data:=.seq its.toArray } } :=
   I1.laid (t':=s.toks) (λb o e=>Ã _ e) (Ì _) (show i80 X.prog X.w _ _ _ (.tup ys) from⟨hz,its,r',Í0.new _ _⟩)
  exact⟨.ref h'.objs.size,_,I2,rfl,q _ (I1.hok.fresh (Ì _))⟩
 ·obtain⟨its,r',pl,hz⟩:=I.tuple hq;exact call_tuple_same pl ⟨.ref p,H,I,rfl,q⟩
def tyV(K:Â)(T:String)(x:V)(H:Hp):Prop:=match x with
 |.str _=>T="str"|.int _=>T="int"
 |.ref p=>(T="list"/\∃ xs,SqL K H p xs)∨(T="tuple"/\∃ o,K.lookup p=some o/\o.cls=.type "tuple"/\o.dict=none) ∨
   (T="dict"/\((∃ kvs,H p=some (.dK kvs))∨∃ kvs,H p=some (.dT kvs)))∨(T="set"/\∃ S n,H p=some (.set S n))
 |_=>False
theorem M41{pins:List (È × Obj)}{σ:St}{H:Hp}{s:Æ}{T:String}{x:V}{v:Ä}(I:Inv X pins σ H s)(r:RelV x v)(ty:tyV X.K T x H) :
  s.TypeIs v T/\∀ a,v=.ref a->∃ ob,s.heap.get? a=some ob/\ob.dict=none:=by
 cases x with
 |str z =>
  obtain⟨t,rfl⟩:=r;cases (show T="str" from ty);exact⟨typeIs_str s z t,λ_ e=>nomatch e⟩
 |int i =>
  obtain⟨t,rfl⟩:=r;cases (show T="int" from ty);exact⟨Ø4 s i t,λ_ e=>nomatch e⟩
 |ref p =>
  cases r;rcases ty with ⟨rfl,xs,hq⟩ | ⟨rfl,o,hk,hc,hd⟩ | ⟨rfl,hk⟩ | ⟨rfl,S,n,hk⟩
  ·obtain⟨its,_,pl,_⟩:=I.list hq;refine⟨pl.isList.typeIs,λa e=>?_⟩;cases e;obtain⟨o,n,e,c,hd,_⟩:=pl;exact⟨o,e,hd⟩
  ·refine⟨⟨o,I.kIn p o hk,hc⟩,λa e=>?_⟩;cases e;exact⟨o,I.kIn _ o hk,hd⟩
  ·have z:∃ o,s.heap.get? p=some o/\o.ExactDict:=by
    rcases hk with ⟨kvs,hk⟩ | ⟨kvs,hk⟩
    ·obtain⟨_,_,_,_,o,_,_,e,ex,_⟩:=I.hok p _ hk;exact⟨o,e,ex⟩
    ·obtain⟨_,_,_,_,o,_,_,e,ex,_⟩:=I.hok p _ hk;exact⟨o,e,ex⟩
   obtain⟨o,e,ex⟩:=z;refine⟨⟨o,e,ex.1⟩,λa e2=>?_⟩;cases e2;exact⟨o,e,ex.2.1⟩
  ·obtain⟨o,_,_,_,e,ex,_⟩:=I.hok p _ hk;refine⟨⟨o,e,ex.1⟩,λa e2=>?_⟩;cases e2;exact⟨o,e,ex.2.1⟩
 |_=>exact Ä6 ty
def K32(K:Â)(T:String)(r:V->List V->Hp->VK->Prop)(to:TE):TE:=λσ H Q=>to σ H λx H1=>tyV K T x H1/\r x [] H1 Q
def tBM(K:Â)(T:String)(r:V->List V->Hp->VK->Prop)(to:TE)(t:TA):TE:=λσ H Q=>to σ H λx H1=>tyV K T x H1/\t σ H1 λxs H2=>r x xs H2 Q
variable {o e:Ð}{es:List Ð}{to:TE}{t:TA}{name:Str}{apos cpos:Pos}{T id:String}{r:V->List V->Hp->VK->Prop}
theorem g12(pa:PlainAttrs T)(slot:Slot T name id)(hty:typeOf (.builtin id)=pure (.type "method_descriptor"))(hm:MtR X id r)(ho:PE X o to)
  (hbase:attributeBase o name X.env (eval o X.env)=eval o X.env:=by rfl) (hline:(apos.endLine == cpos.line)=true:=by rfl):PE X (.Call (.Attribute o name apos) [] [] cpos) (K32 X.K T r to):=by
 intro pins s σ H Q I h;refine wpAny_Call_method0_late hbase hline (thn (ho pins s σ H _ I h) λv s1 ⟨x,H1,I1,r1,ty,q1⟩=>?_);obtain⟨h1,h2⟩:=M41 I1 r1 ty;exact⟨T,id,pa,slot,hty,h1,h2,Ü7 rfl (PySem.evalArgs_none (hm pins s1 σ H1 x [] v [] Q I1 r1 .nil q1))⟩
theorem R91(pa:PlainAttrs T)(slot:Slot T name id)(hty:typeOf (.builtin id)=pure (.type "method_descriptor"))(hm:MtR X id r)(ho:PE X o to)(ha:PA X (e::es) t)
  (hbase:attributeBase o name X.env (eval o X.env)=eval o X.env:=by rfl)
  (hfew:((Ò7 cpos (ý (e::es) X.env)).all (λx=>!x.1)&&(backToKw cpos (keywordEach [] X.env)).all (λx=>x.1.isSome)
   &&decide ((e::es).length + ([]:List Keyword).length + (if ([]:List Keyword).isEmpty then 0 else 1) < 30))=true:=by rfl)
  (hline:(apos.endLine == cpos.line)=true:=by rfl) (hs:ý (e::es) X.env=(false,eval e X.env)::ý es X.env:=by rfl) (hplain:(Ò7 cpos (ý es X.env)).any (·.1)=false:=by rfl) :
  PE X (.Call (.Attribute o name apos) (e::es) [] cpos) (tBM X.K T r to t):=by
 intro pins s σ H Q I h;refine wpAny_Call_method_late hbase hfew hline rfl (thn (ho pins s σ H _ I h) λv s1 ⟨x,H1,I1,r1,ty,q1⟩=>?_);obtain⟨h1,h2⟩:=M41 I1 r1 ty;refine⟨T,id,pa,slot,hty,h1,h2,?_⟩;have hA:=ha cpos pins s1 σ H1 _ I1 q1;rw[hs] at hA ⊢;refine Ü7 (by show(false || (Ò7 cpos (ý es X.env)).any (·.1))=false;rw[hplain] <;> rfl) (Ý5 ?_)
 exact thn hA λus s2 ⟨vs,H2,I2,r2,q2⟩=>hm pins s2 σ H2 x vs v us Q I2 r1 r2 q2
end
def MtM(X:Cx)(id:String)(r:V->List V->Hp->VK->Prop):Prop :=
 ∀ (pins:List (È × Obj)) (s:Æ) (σ:St) (H:Hp) (x:V) (xs:List V) (v:Ä) (us:List Ä) (Q:VK),Inv X pins σ H s->RelV x v->Vals xs us->r x xs H Q ->
  Ñ (Ü X.prog X.w) X.A (call (.builtin id) (v::us)) (EP X pins σ Q) X.xe s
theorem Vals.one:∀ {x:V}{us:List Ä},Vals [x] us->∃ u,us=[u]/\RelV x u
 |_,_,.cons r .nil=>⟨_,rfl,r⟩
theorem Vals.eraseIdx:∀ {xs:List V}{us:List Ä} (i:Nat),Vals xs us->Vals (xs.eraseIdx i) (us.eraseIdx i)
 |_,_,_,.nil=>.nil|_,_,0,.cons _ t=>t|_,_,i + 1,.cons r t=>.cons r (Vals.eraseIdx i t)
theorem Vals.reverse{xs:List V}{us:List Ä}(h:Vals xs us):Vals xs.reverse us.reverse:=by
 induction h with
 |nil=>exact .nil|cons r t ih=>rw[Ñ2,Ñ2];exact Vals.append ih (.cons r .nil)
theorem Vals.rep{xs:List V}{us:List Ä}(h:Vals xs us):∀ k:Nat,Vals (æ k xs).flatten (æ k us).flatten
 |0=>.nil
 |k + 1=>by
  rw[Ã3,Ã3,È1,È1];exact Vals.append h (Vals.rep h k)
theorem R40{α:Type}:∀ (l:List α) (i:Nat),(l.eraseIdx i).length<=l.length
 |[],_=>Ì _|_::_,0=>le_succ _|_::r,i + 1=>É8 (R40 r i)
theorem foldl_rep(its:List Ä):∀ (k:Nat) (acc:List Ä),
  foldl (λx1 x2=>x1++x2) acc.toArray (æ k its.toArray)=(acc++(æ k its).flatten).toArray
 |0,acc=>by simp
 |k + 1,acc=>by
  have e:acc.toArray++its.toArray=(acc++its).toArray:=by simp
  have e2:(acc++its)++(æ k its).flatten=acc++(æ (k + 1) its).flatten:=by
   rw[Ã3,È1,Æ1]
  rw[← e2,← foldl_rep its k (acc++its),← e,Ã3,foldl_cons]
section
variable {X:Cx}{pins:List (È × Obj)}{σ:St}{H:Hp}{s:Æ}{l b:È}{xs ys zs:List V}
theorem Inv.r72{its its':List Ä}{n:Nat}{f:Array Ä->Array Ä}{t':Nat}(I:Inv X pins σ H s)(hH:H l=some (.lst xs))
  (e:s.heap.get? l=some { cls:=.type "list",data:=.seq its.toArray n }) (hf:f its.toArray=its'.toArray) (hv:Vals ys its') (hz:ys.length<=sizeLine) :
  Inv X pins σ (upd H l (.lst ys)) { s with heap:=s.heap.update l (À9 f),toks:=t' }:=by
 have q:=PySem.IsL.update e f;rw[hf] at q;refine I.write (x:=l) (e:=l) (by rw[hH];exact trivial) (.inl rfl) (λb' u hb hu=>(Ü9 s.heap (À9 f) (À6 hb)).trans hu) ⟨_,q⟩ ?_
 exact⟨hz,its',_,hv,q⟩
theorem Inv.F92{its:List Ä}{t':Nat}(I:Inv X pins σ H s)(hv:Vals ys its)(hz:ys.length<=sizeLine) :
  Inv X pins σ (upd H s.heap.objs.size (.lst ys)) { s with heap:=s.heap.push { cls:=.type "list",data:=.seq its.toArray },toks:=t' } :=
 I.laid (λ_ _ q=>Ã _ q) (Ì _) ⟨hz,its,0,hv,Ï _ rfl⟩
theorem Inv.fresh(I:Inv X pins σ H s):H s.heap.objs.size=none:=I.hok.fresh (Ì _)
theorem Inv.w02(I:Inv X pins σ H s)(hH:H l=some (.lst xs)):xs.length<=sizeLine/\∃ (its:List Ä) (n:Nat),Vals xs its/\xs.length=its.length/\s.heap.get? l=some { cls:=.type "list",data:=.seq its.toArray n }:=by
 obtain⟨z,its,n,r,e⟩:=I.hok l _ hH;exact⟨z,its,n,r,r.length,e⟩
theorem D91{n:Nat}(h:n<=sizeLine):Ë8 n=false:=by
 unfold Ë8;exact decide_eq_false ∅
end
section
variable {X:Cx}
def o81:V->List V->Hp->VK->Prop:=λx vs H Q=>∃ l xs y,x=.ref l/\vs=[y]/\H l=some (.lst xs)/\xs.length < sizeLine/\Q .non (upd H l (.lst (xs++[y])))
theorem R50:MtM X "list.append" o81:=by
 intro pins s σ H x vs v us Q I rx rv h;obtain⟨l,xs,y,rfl,rfl,hH,hz,q⟩:=h;cases rx;obtain⟨u,rfl,ru⟩:=rv.one;obtain⟨z,its,n,r,hl,e⟩:=I.w02 hH;refine Æ7 F.slot_list_append ⟨_,e,rfl⟩ F.entry_list_append (F.args_list_append_2 _ _) (PySem.list_append l its.toArray n u (by rw[Ô];omega)) ⟨e,?_⟩
 refine⟨.non,_,I.r72 (its':=its++[u]) hH e (by simp) (r.append (.cons ru .nil)) ?_,rfl,q⟩
 rw[À0,Ý2];omega
def g22:V->List V->Hp->VK->Prop:=λx vs H Q=>∃ l xs i k y,x=.ref l/\vs=[.int i]/\H l=some (.lst xs)/\-(2 ^ 63)<=i/\i < 2 ^ 63/\seqIndex? i xs.length=some k/\xs[k]?=some y/\Q y (upd H l (.lst (xs.eraseIdx k)))
theorem r82:MtM X "list.pop" g22:=by
 intro pins s σ H x vs v us Q I rx rv h;obtain⟨l,xs,i,k,y,rfl,rfl,hH,h1,h2,hk,hy,q⟩:=h;cases rx;obtain⟨u,rfl,ru⟩:=rv.one;obtain⟨t,rfl⟩:=ru;obtain⟨z,its,n,r,hl,e⟩:=I.w02 hH;obtain⟨w,hw,rw'⟩:=r.get hy;refine Æ7 F.slot_list_pop ⟨_,e,rfl⟩ F.entry_list_pop (F.args_list_pop_2 _ _)
  (MeetsSeq.list_pop_at l its.toArray n i t k w (fitsIndex_both h1 h2) (by rw[Ô,← hl];exact hk) (by rw[← þ];exact hw) (by rw[Ô];omega)) ⟨e,?_⟩
 refine⟨y,_,I.r72 (its':=its.eraseIdx k) hH e ?_ (r.eraseIdx k) ?_,rw',q⟩
 ·show its.toArray.eraseIdxIfInBounds k=(its.eraseIdx k).toArray;rw[List.eraseIdxIfInBounds_toArray]
 ·have:=R40 xs k;omega
theorem len_rep{α:Type}(xs:List α)(k:Nat):(æ k xs).flatten.length=k * xs.length:=by
 induction k with
 |zero=>simp|succ k ih=>rw[Ã3,È1,À0,ih,Nat.succ_mul,Nat.add_comm]
end
end L2
namespace Att
open PySem PySem.W PySem.Calls PyProof.Rows
theorem D20{P:Params}{h:õ}:∀ (ns:List Int) (vs:List Ä),WellAll P h vs (ns.map WData.int)->É5 vs ns:=by
 intro ns
 induction ns with
 |nil =>
  intro vs w;rw[map_nil] at w;cases w;exact .nil
 |cons n ns ih =>
  intro vs w;rw[Â0] at w;cases w with
  |cons a b =>
   cases a;exact .cons _ _ (ih _ b)
theorem o91{l:OpenLaw}{n:Nat}(hn:l.most=some n){P:Params}{h:õ}{args:List WData}{vals:List Ä}
  (hpre:l.row.toRowW.claim.pre args=true) (hwl:WellAll P h vals args) :
  ∃ a vs ns,vals=[Å3 a]/\args=[WData.list (ns.map WData.int)]/\h.get? a=some { cls:=.type "list",data:=.seq vs.toArray }/\É5 vs ns/\ns.length<=n:=by
 have hsh:WShape.hasAll [] args [.list .int]=true:=(pre_splitW hpre).1;have hc:l.pre.holds [] { args:=args }=true:=(pre_splitW hpre).2;obtain⟨d,r,rfl,h1,h2⟩:=hasAllW_cons hsh;obtain rfl:=hasAllW_nil h2;obtain⟨xs,rfl,h3⟩:=hasW_list h1;obtain⟨ns,rfl⟩:=items_int h3;have hlen:ns.length<=n:=by
  unfold OpenLaw.pre at hc;have h4:(WTm.not (.lt (.lit (.int (n:Int))) (.len (.arg 0)))).holds [] { args:=[.list (ns.map .int)] }=true:=by
   have h4:=(holds_andW hc).1;rw[hn] at h4;exact h4
  have h5:=condW_of h4 (w_not (w_lt w_lit (w_len_list (w_arg rfl))));rw[Ç] at h5;refine Nat.le_of_not_lt λq=>?_;have q':(n:Int) < ((ns.length:Nat):Int):=by omega
  first
   |(rw[decide_eq_true q'] at h5;exact absurd h5 (-0))
   |(simp at h5;omega)
 cases hwl with
 |cons w1 w2 =>
  cases w2;cases w1 with
  |list ho hall=>exact⟨_,_,ns,rfl,rfl,ho,D20 ns _ hall,hlen⟩
theorem p01(l:OpenLaw)(args:List WData):l.row.toRowW.claim.post args (.bool true) args=true :=
 postW_of (r:=l.row.toRowW) (X:=(true == true))
  (show WShape.has [] (.bool true) .bool=true by first | rfl | decide | simp[WShape.has,WShape.arms,WShape.armsAll])
  (show(WTm.eq .res (.lit (.bool true))).value [] { args:=args,res:=some (.bool true),after:=args }=some (.bool (true == true)) from w_eq_bool (w_res rfl) w_lit) rfl
theorem X00{l:OpenLaw}{n:Nat}{q:ã}{loose:List Str}{XP:(Str->Option Ä)->õ->Prop}{YP:ü->õ->Prop}{d:DefRec}
  (hn:l.most=some n) (hdf:d.params.defaults=[])
  (call:∀ (w:ü) (s₀ s₁:Æ) (mg mb:Str->Option Ä) (fa:È) (o:Obj) (pm cd doc:Ä) (a:È) (vs:List Ä) (ns:List Int),
   Ground q loose [] XP w s₀ mg mb s₁.heap->YP w s₁.heap ->
   s₁.heap.get? fa=some o->o.data=.func (docDef d.name d.params d.body d.scope pm cd doc)->s₁.heap.CodeRec cd d.name->mg d.name=some (.ref fa) ->
   s₁.heap.get? a=some { cls:=.type "list",data:=.seq vs.toArray }->É5 vs ns->ns.length<=n->s₁.gens=#[] ->
   Ù8 (Ü l.prog w) Ù9 (.call (.ref fa) ⟨[.ref a],[]⟩) (λr s'=>r=.ok (.ret (.bool true))/\OldK s₁.heap s'.heap/\s'.os=s₁.os/\Ò9 s'.gens) s₁) :
  WalkO q loose XP YP l.row.toRowW d [] (λf vs=>PySem.call f vs):=by
 intro w s₀ s₁ mg mb G Y fa o pm cd doc dV kV ho hd hcd hD hmg hg args vals as hpre hlay hrd hwl hlo;obtain rfl:dV=.none:=Dflts.none hD hdf;obtain rfl:kV=.none:=Dflts.noKw hD;obtain⟨a,vs,ns,rfl,rfl,hobj,hints,hlen⟩:=o91 hn hpre hwl;refine enter_call (Ò6 (call w s₀ s₁ mg mb fa o pm cd doc a vs ns G Y ho (fd_plain hd) hcd hmg hobj hints hlen hg) λr s' hq=>?_);obtain⟨rfl,h2,h3,h4⟩:=hq;exact⟨.inl ⟨.bool true,.bool true,[],rfl,λ_=>rfl,.bool true,p01 l _,λ_=>⟨Ô3.nil,λ_ hm=>(nomatch hm)⟩⟩,h2,h3,h4⟩
end Att
namespace L2
open PySem PySem.Spec PyProof.Rows
theorem R60:∀ {vs:List Ä}{ns:List Int},É5 vs ns->Vals (ns.map V.int) vs
 |_,_,.nil=>.nil|_,_,.cons n t h=>.cons ⟨t,rfl⟩ (R60 h)
def J60(s:Ã9):Arguments:=match s with
 |.FunctionDef _ a _ _ _ _ _ _ _ _=>a|_=>{ posonlyargs:=[],args:=[],vararg:=none,kwonlyargs:=[],kw_defaults:=[],kwarg:=none,defaults:=[] }
def o60(s:Ã9):List Stmt:=match s with
 |.FunctionDef _ _ b _ _ _ _ _ _ _=>b|_=>[]
def c90(s:Ã9):Scope:=match s with
 |.FunctionDef _ _ _ _ _ _ sc _ _ _=>sc|_=>{ kind:=.function,names:=[],isGenerator:=false,isCoroutine:=false }
abbrev CX0:CXT:=λ_ _ _ _ _ _=>False
structure Fun(K:PySem.W.Frag)(x qual:Str)(st:Stmt)(f:Addr)(fd:FuncData):Prop where
 ex:∃ (oc:Value) (od:Option Addr) (kV doc pm:Value) (an:Option Addr) (cdv ct:Value) (osl:Array (Option Value)),
  fd=fnOf x qual (J60 st) (o60 st) (c90 st) .none kV doc pm an cdv ct/\K.lookup f=some ⟨oc,od,.func fd,osl⟩/\PySem.W.codeIn K cdv qual=true
 kp:PySem.W.keepIn K (.ref f)=true
section
variable {P:ã}{w:ü}{K:Â}{mg:Str->Option Ä}{base:õ}
theorem Fun.binds{x qual:Str}{st:Ã9}{f:È}{fd:É3}{ps:List Str}(F:Fun K x qual st f fd)
  (h:∀ (kV doc pm:Ä) (an:Option È) (cdv ct:Ä) (us:List Ä),us.length=ps.length->bindArgs (fnOf x qual (J60 st) (o60 st) (c90 st) .none kV doc pm an cdv ct) ⟨us,[]⟩=pure (ps.zip us)):Binds K fd ps []:=by
 obtain⟨oc,od,kV,doc,pm,an,cdv,ct,osl,rfl,lk,hcd⟩:=F.ex;exact .all (h kV doc pm an cdv ct)
end
theorem K42{A:À3}{k:Nat}(hr:Q40 k A):A.units + 1 < cLine:=È9 (Nat.add_le_add_left (by decide:1<=64) _) hr.units
def a40(H H':Hp):Prop:=∀ b o,H b=some o->H' b=some o
theorem a40.refl(H:Hp):a40 H H:=λ_ _ h=>h
theorem a40.trans{H H1 H2:Hp}(a:a40 H H1)(b:a40 H1 H2):a40 H H2:=λc o h=>b c o (a c o h)
end L2
set_option maxHeartbeats 4000000
namespace L2
open PySem
abbrev NoX:Ä->Æ->Prop:=λ_ _=>False
theorem X10(env:Env):∀ (names:List (Str × É2)) (acc:List (Str × È)),(∀ y∈names,y.2=.free->∃ c,env.cells.lookup y.1=some c)->(∀ x c,acc.lookup x=some c->env.cells.lookup x=some c) ->
  ∃ cl:List (Str × È),(forIn names acc λ(x:Str × É2) (r:List (Str × È))=>(if (x.2 == .free)=true then do let c ← cellOf env x.1;pure (Þ ((x.1,c)::r)) else pure (Þ r):Sem (ForInStep (List (Str × È)))))=pure cl /\
   (∀ x c,cl.lookup x=some c->env.cells.lookup x=some c)/\(∀ x c,acc.lookup x=some c->∃ c',cl.lookup x=some c')/\(∀ y∈names,y.2=.free->∃ c,cl.lookup y.1=some c)
 |[],acc,_,ha=>⟨acc,by simp,ha,λx c e=>⟨c,e⟩,λy hy=>absurd hy (by simp)⟩
 |(n,k)::r,acc,hf,ha=>by
  by_cases hk:k=.free
  ·subst hk;obtain⟨c,hc⟩:=hf (n,.free) É rfl;have hcell:cellOf env n=pure c:=by unfold cellOf;rw[hc]
   obtain⟨cl,e,h1,h2,h3⟩:=X10 env r ((n,c)::acc) (λy hy=>hf y (Å _ hy)) (λx c' e=>by
    rw[À2] at e;by_cases hx:(x == n)=true
    ·rw[hx] at e;have:x=n:=by simpa using hx
     subst this;cases e;exact hc
    ·rw[show(x == n)=false by simpa using hx] at e
     exact ha x c' e)
   refine⟨cl,?_,h1,λx c' e'=>?_,λy hy hyk=>?_⟩
   ·rw[Ê8];simp only[beq_self_eq_true,if_true,hcell,pure_bind];exact e
   ·by_cases hx:(x == n)=true
    ·exact h2 x c (by rw[À2,hx])
    ·exact h2 x c' (by rw[À2,show(x == n)=false by simpa using hx];exact e')
   ·rcases ß.mp hy with rfl | hy
    ·exact h2 n c (by simp[À2])
    ·exact h3 y hy hyk
  ·obtain⟨cl,e,h1,h2,h3⟩:=X10 env r acc (λy hy=>hf y (Å _ hy)) ha;refine⟨cl,?_,h1,h2,λy hy hyk=>?_⟩
   ·rw[Ê8];have hb:((k == î)=true)=False:=by simpa using hk
    simp only[hb,if_false,pure_bind];exact e
   ·rcases ß.mp hy with rfl | hy
    ·exact absurd hyk hk
    ·exact h3 y hy hyk
theorem p11(hf:∀ y∈scope.names,y.2=.free->∃ c,env.cells.lookup y.1=some c) :
  ∃ cl:List (Str × È),closureFor scope env=pure cl/\(∀ x c,cl.lookup x=some c->env.cells.lookup x=some c)/\(∀ y∈scope.names,y.2=.free->∃ c,cl.lookup y.1=some c):=by
 obtain⟨cl,e,h1,_,h3⟩:=X10 env scope.names [] hf (λx c e=>by simp at e)
 refine⟨cl,?_,h1,h3⟩;simp only[closureFor];exact(congrArg (λt=>t >>= λr=>(pure r:Sem _)) e).trans (by simp)
section
variable {P:ã}{w:ü}{A:À3}{R:Result->Æ->Prop}{s:Æ}
theorem p21{el tg src:Ð}{tests:List Ð}{sc:Á3}{ps:Pos}{itv av:Ä}{en:Env}(J:Nat->Æ->Prop)
  (turn:∀ n s,J n s->Ñ (Ü P w) A (pyNext itv) (λr s1=>match r with
   |none=>R (.ok .next) s1
   |some v=>Ñ (Ü P w) A (Ü3 tg itv v) (λ_ s2=>Ñ (Ü P w) A (Õ1 tg en v) (λ_ s3 =>
     Ñ (Ü P w) A (forIn tests true λc r=>if r=true then do let ok ← isTrue c en (eval c en);pure (Þ ok) else pure (Þ r)) (λok s4 =>
      if ok=true then Ñ (Ü P w) A (eval el en) (λx s5 =>
       Ñ (Ü P w) A (call (.builtin "list.append") [av,x]) (λ_ s6=>∃ m,m < n/\J m s6) NoX s5) NoX s4
      else ∃ m,m < n/\J m s4) NoX s3) NoX s2) NoX s1) NoX s)
  (n:Nat) (h:J n s) :
  Ù8 (Ü P w) A (.compLoop (.ListComp el [⟨tg,src,tests,0⟩] sc ps) 0 itv av en) R s:=by
 refine codeAny_loop rfl J (λn s hI=>?_) n h;show Ñ _ A ((compTurn (.ListComp el [⟨tg,src,tests,0⟩] sc ps) 0 itv av en).onRaise (λx=>do noteFrame x en;theTreesLotGoes x)) _ _ s;refine wpAny_noted ?_;rw[compTurn_list];refine Á (Ö8 (Á (Ä4 (turn n s hI) (λr s1 h1=>?_) λ_ _ x=>x.elim)));cases r with
 |none=>exact Ê h1
 |some v =>
  refine Á (Ä4 h1 (λ_ s2 h2=>?_) λ_ _ x=>x.elim);refine Á (Ä4 h2 (λ_ s3 h3=>Á (Ä4 h3 (λok s4 h4=>?_) λ_ _ x=>x.elim)) λ_ _ x=>x.elim);cases ok with
  |false=>exact Ê ⟨rfl,h4⟩|true=>exact Á (Á (Ä4 h4 (λx s5 h5=>Á (Ä4 h5 (λ_ s6 h6=>Ê (Ê ⟨rfl,h6⟩)) λ_ _ x=>x.elim)) λ_ _ x=>x.elim))
end
open PySem PySem.Spec PyProof.Rows
abbrev c80(X:Cx)(N':List Str)(sc:Á3)(cl:List (Str × È))(C:È)(s:Æ)(H:Hp)(fp:List È):Cx :=
 { X with N:=N',s₀:=s,H₀:=H,env:=compEnvC sc cl C X.env,outer:=X.stack,stack:=X.stack,ex:=fp,fn:=λ_=>false,pn:=[],xe:=NoX }
def d70(own:List Str)(capt:List (Str × Nat)):List Str:=own++capt.map (·.1)
def s80(own:List Str)(capt:List (Str × Nat))(σ:St):St:=own.map (λ_=>none)++capt.map λp=>(σ[p.2]?).getD none
structure H40(X:Cx)(sc:Scope)(own:List Str)(capt:List (Str × Nat)):Prop where
 kind:sc.kind=.function
 nocell:∀ y∈sc.names,y.2≠.cell
 locs:∀ y∈sc.names,y.2=.local->sc.names.lookup y.1=some .local
 frees:∀ y∈sc.names,y.2=.free->X.env.kindOf y.1=some .cell∨X.env.kindOf y.1=some .free
 captd:∀ p∈capt,X.N[p.2]?=some p.1/\sc.names.lookup p.1=some .free
theorem J70{env:Env}:∀ {names:List (Str × É2)}{x:Str}{k:É2},
  (names.map λ(n,k)=>if (k == î&&env.scope.kind == .function&&env.kindOf n == some .cell) then(n,Ä3) else(n,k)).lookup x=some k->(k=.cell∨k=.free)->(∀ y∈names,y.2≠.cell)->(x,î)∈names
 |[],_,_,h,_,_=>by simp at h
 |(n,k0)::r,x,k,h,hk,hn=>by
  have h:Ë1 x ((if (k0 == î&&env.scope.kind == .function&&env.kindOf n == some .cell)=true then(n,Ä3) else(n,k0))::_)=some k:=h;have hn0:k0≠.cell:=hn (n,k0) É;cases hx:x == n with
  |true =>
   have e:x=n:=by simpa using hx
   subst e;by_cases hc:(k0 == î&&env.scope.kind == .function&&env.kindOf x == some .cell)=true
   ·have:k0=.free:=by
     cases k0 <;> simp_all
    subst this;exact É
   ·rw[if_neg hc] at h;simp only[À2,hx] at h;cases h;rcases hk with hk | hk
    ·exact absurd hk hn0
    ·subst hk;exact É
  |false =>
   have h':(r.map λ(n,k)=>if (k == î&&env.scope.kind == .function&&env.kindOf n == some .cell) then(n,Ä3) else(n,k)).lookup x=some k:=by
    by_cases hc:(k0 == î&&env.scope.kind == .function&&env.kindOf n == some .cell)=true
    ·rw[if_pos hc] at h;simp only[À2,hx] at h;exact h
    ·rw[if_neg hc] at h;simp only[À2,hx] at h;exact h
   exact Å _ (J70 h' hk λy hy=>hn y (Å _ hy))
theorem q30{env:Env}:∀ {names:List (Str × É2)}{x:Str},names.lookup x=some .free ->
  (names.map λ(n,k)=>if (k == î&&env.scope.kind == .function&&env.kindOf n == some .cell) then(n,Ä3) else(n,k)).lookup x=some .cell ∨
  (names.map λ(n,k)=>if (k == î&&env.scope.kind == .function&&env.kindOf n == some .cell) then(n,Ä3) else(n,k)).lookup x=some .free
 |[],_,h=>by simp at h
 |(n,k)::r,x,h=>by
  have ih:=@q30 env r x;show Ë1 x ((if (k == î&&env.scope.kind == .function&&env.kindOf n == some .cell)=true then(n,Ä3) else(n,k))::_)=_∨Ë1 x ((if (k == î&&env.scope.kind == .function&&env.kindOf n == some .cell)=true then(n,Ä3) else(n,k))::_)=_;cases hx:x == n with
  |true =>
   simp only[À2,hx] at h;cases h;by_cases hc:(î == î&&env.scope.kind == .function&&env.kindOf n == some .cell)=true
   ·rw[if_pos hc];left;simp only[À2,hx]
   ·rw[if_neg hc];right;simp only[À2,hx]
  |false =>
   simp only[À2,hx] at h;by_cases hc:(k == î&&env.scope.kind == .function&&env.kindOf n == some .cell)=true
   ·rw[if_pos hc];simp only[À2,hx];exact ih h
   ·rw[if_neg hc];simp only[À2,hx];exact ih h
theorem HOk.E01{P:ã}{w:ü}{H:Hp}{h:õ}{D:È}{ys:List V}{its:List Ä}{n:Nat}(x:HOk P w H h)(hn:H D=none)(hv:Vals ys its)(hz:ys.length<=sizeLine)
  (ho:h.get? D=some { cls:=.type "list",data:=.seq its.toArray n }):HOk P w (upd H D (.lst ys)) h:=λb u e=>by
 by_cases hb:b=D
 ·subst hb;rw[b50] at e;cases e;exact⟨hz,its,n,hv,ho⟩
 ·rw[a30 hb] at e;exact(x b u e).C71 (λc v _ q=>q) (λc q=>by rw[a30 (b10 q hn)];exact q) λc xs q=>by rw[a30 (b10 q hn)];exact q
def PTs(X:Cx)(tests:List Ð)(t:TT):Prop :=
 ∀ (pins:List (È × Obj)) (s:Æ) (σ:St) (H:Hp) (Q:Bool->Hp->Prop),Inv X pins σ H s->t σ H Q ->
  Ñ (Ü X.prog X.w) X.A (forIn tests true λc r=>if r=true then do let ok ← isTrue c X.env (eval c X.env);pure (Þ ok) else pure (Þ r)) (TP X pins σ Q) X.xe s
def i71:TT:=λ_ H Q=>Q true H
theorem p31:PTs X [] i71:=λ_ _ _ H _ I h=>wpAny_tests_nil ⟨H,I,h⟩
theorem S01(hc:PT X c t):PTs X [c] t:=λpins s σ H Q I h=>wpAny_tests_one (hc pins s σ H Q I h)
section
variable {X:Cx}{pins:List (È × Obj)}{σ:St}{H2:Hp}{s2:Æ}{sc:Á3}{own:List Str}{capt:List (Str × Nat)}{cl:List (Str × È)}{fp:List È}{C:È}
theorem R70(I:Inv X pins σ H2 s2)(S:H40 X sc own capt)(hcl:∀ x c,cl.lookup x=some c->X.env.cells.lookup x=some c)(hcf:∀ y∈sc.names,y.2=.free->∃ c,cl.lookup y.1=some c)
  (hx:∀ x c,X.env.cells.lookup x=some c->c ∉ fp) {h':õ} (un:∀ c o,s2.heap.get? c=some o->H2 c=none->c ∉ fp->∃ sl,h'.get? c=some { o with slots:=sl }) (m:Str->Option Ä) :
  ∀ (i:Nat) (x:Str) (v:V),(d70 own capt)[i]?=some x->(s80 own capt σ)[i]?=some (some v)->∃ u,RelV v u/\Look (compEnvC sc cl C X.env) h' m x u:=by
 intro i x v e1 e2;unfold d70 at e1;unfold s80 at e2;by_cases hi:i < own.length
 ·rw[Ç6 (by simpa using hi),Ö] at e2
  cases q:own[i]? with
  |none=>rw[q] at e2;cases e2
  |some y=>rw[q] at e2;cases e2
 ·rw[À8 (by simpa using hi),Ç,Ö] at e2
  rw[À8 (by simpa using hi),Ö] at e1
  cases q:capt[i - own.length]? with
  |none=>rw[q] at e1;cases e1
  |some p =>
   rw[q] at e1 e2;obtain rfl:p.1=x:=À1 e1;have e3:(σ[p.2]?).getD none=some v:=À1 e2;have e4:σ[p.2]?=some (some v):=by
    cases z:σ[p.2]? with
    |none=>rw[z] at e3;cases e3
    |some w=>rw[z] at e3;exact congrArg some e3
   obtain⟨hN,hf⟩:=S.captd p (é q);have hmem:(p.1,î)∈sc.names:=Å2 hf;have hk:=S.frees _ hmem rfl;obtain⟨m0,_,hl⟩:=I.loc;have vis:Vis X.env.scope p.1:=.inr hk;obtain⟨u,r,lk⟩:=hl p.2 p.1 v hN e4 vis;refine⟨u,r,.inr ⟨?_,?_⟩⟩
   ·exact q30 hf
   ·rcases lk with ⟨hl0,_⟩ | ⟨_,c,hc,o,ho,hd⟩
    ·rcases hk with hk | hk <;> (rw[hk] at hl0;cases hl0)
    ·obtain⟨c',hc'⟩:=hcf _ hmem rfl;have:=hcl _ _ hc';rw[hc] at this;cases this;obtain⟨sl,q'⟩:=un c o ho (I.freeC _ _ hc) (hx _ _ hc);exact⟨c,hc',_,q',hd⟩
end
def S11(X:Cx)(pins:List (È × Obj))(σ:St)(R:V->Hp->Prop)(acc:Ä)(C:È)(s':Æ):Prop :=
 ∃ D H' m',acc=.ref D/\Inv X pins σ H' s'/\b21 X pins H' C/\s'.heap.Ns C m'/\R (.ref D) H'
def E11(J:It)(σ0:St)(H1:Hp)(g:TG)(tt:TT)(te:TE)(Q:VK):Prop:=∃ W:Nat->Nat->List V->Hp->Prop,(∃ m,W 0 m [] H1)/\∀ i m ys H,W i m ys H ->
 (J.stop i H/\∀ p,H p=none->Q (.ref p) (upd H p (.lst ys))) ∨
 (J.go i H/\ys.length < sizeLine/\∃ N:List V->Hp->Prop,(∀ zs H',N zs H'->∃ m',m' < m/\W (i + 1) m' zs H')/\∀ x H',J.yld i H x H'->g x σ0 H' λσ2 H2=>tt σ2 H2 λb H3 =>
  if b=true then te σ2 H3 (λy H4=>N (ys++[y]) H4) else N ys H3)
def S21(own:List Str)(capt:List (Str × Nat))(wi:TI)(g:TG)(tt:TT)(te:TE):TE:=λσ H Q=>wi σ H λJ H1=>E11 J (s80 own capt σ) H1 g tt te Q
section
variable {X:Cx}{pins:List (È × Obj)}{σ:St}{H2:Hp}{s2:Æ}{sc:Á3}{own:List Str}{capt:List (Str × Nat)}{cl:List (Str × È)}{el tg src:Ð}{tests:List Ð}{ps:Pos}{g:TG}{tt:TT}{te:TE}
theorem H50(hc:X.calm=true)(S:H40 X sc own capt)(hcl:∀ x c,cl.lookup x=some c->X.env.cells.lookup x=some c)(hcf:∀ y∈sc.names,y.2=.free->∃ c,cl.lookup y.1=some c)
  (hg:∀ C s H fp,PG (c80 X (d70 own capt) sc cl C s H fp) tg g) (ht:∀ C s H fp,PTs (c80 X (d70 own capt) sc cl C s H fp) tests tt) (he:∀ C fp,(∀ b∈fp,b21 X pins H2 b)->PE (c80 X (d70 own capt) sc cl C s2 H2 fp) el te)
  {it:È}{fp:List È}{tn:Nat->õ->Prop}{J:It} (I2:Inv X pins σ H2 s2) (T:Turn X.prog X.w X.K tg J fp it tn) (st2:tn 0 s2.heap) (f2:∀ b∈fp,b21 X pins H2 b)
  {R:VK} (h:E11 J (s80 own capt σ) H2 g tt te R) {RR:Ä->È->Result->Æ->Prop} (hRR:∀ acc C s',S11 X pins σ R acc C s'->RR acc C (.ok .next) s') {E:Ä->Æ->Prop} :
  Ñ (Ü X.prog X.w) X.A (newList []) (λacc s3=>Ñ (Ü X.prog X.w) X.A (newFunctionEnv sc X.env.globals cl [] X.env.qual none .none (some X.env)) (λce s4 =>
   Ù8 (Ü X.prog X.w) X.A (.compStart (.ListComp el [⟨tg,src,tests,0⟩] sc ps) 0 (.ref it) acc { ce with scope:=relabel sc X.env }) (RR acc ce.locals) s4) E s3) E s2:=by
 obtain⟨W,⟨m0,w0⟩,turn⟩:=h;refine ò (wpAny_newFunctionEnv S.nocell (by intro y hy;simp at hy) (λh1 hns1 hsb1=>?_) S.kind)
 dsimp only at hns1 hsb1 ⊢;generalize hH3:s2.heap.push { cls:=.type "list",dict:=none,data:=.seq ([]:List Ä).toArray }=h3 at hns1 hsb1 ⊢;have hC:h3.objs.size=s2.heap.objs.size + 1:=by rw[← hH3,Í5]
 have below:∀ b,b < s2.heap.objs.size->b≠h3.objs.size/\b≠s2.heap.objs.size:=λb hb=>⟨by omega,by omega⟩
 have hDC:s2.heap.objs.size≠h3.objs.size:=by omega
 have old:∀ b o,s2.heap.get? b=some o->h1.get? b=some o:=λb o e=>hsb1.extBut b o (below b (â e)).1 (Ã _ (hH3 ▸ Ã _ e));have hacc:h1.get? s2.heap.objs.size=some { cls:=.type "list",data:=.seq ([]:List Ä).toArray 0 }:=hsb1.extBut _ _ hDC (Ã _ (hH3 ▸ Ï _ rfl));have fpLt:∀ b∈fp,b < s2.heap.objs.size:=λb hb=>by
  obtain⟨o,e,_⟩:=T.obj _ _ st2 b hb;exact â e
 have celLt:∀ x c,X.env.cells.lookup x=some c->c < s2.heap.objs.size:=λx c e=>by
  obtain⟨v,o,q,_⟩:=I2.cell x c e;exact â q
 have frLt:∀ b∈frs X.stack,b < s2.heap.objs.size:=λb hb=>by
  obtain⟨_,o,q,_⟩:=I2.stack.mem hb;exact â q
 have celFp:∀ x c,X.env.cells.lookup x=some c->c ∉ fp:=λx c e hb=>(f2 c hb).2.2.2.2.1 x c e rfl;have fpFr:∀ b∈fp,b ∉ frs X.stack:=λb hb hf=>by
  rcases ß.mp (I2.m91 b hf) with z | z
  ·exact(f2 b hb).2.1 z
  ·exact(f2 b hb).2.2.1 z
 have okX:(c80 X (d70 own capt) sc cl h3.objs.size s2 H2 fp).Ok:=by
  refine⟨I2.ok.mod,S.kind,I2.ok.glob,I2.ok.blt,(by show s2.heap.objs.size<=h3.objs.size;omega),λx y c e1 e2=>I2.ok.inj x y c (hcl x c e1) (hcl y c e2),λx hx=>?_,λx c hx=>(by cases hx),I2.ok.hd,I2.ok.frames,.inl rfl,
   λb hb=>⟨(below b (fpLt b hb)).1,λx c e z=>celFp x c (hcl x c e) (z ▸ hb)⟩,I2.bs,Ù I2.ok.bsz I2.sz,λb o e hb=>?_,fpFr,I2.stack,I2.W40⟩
  ·have hx':(x,î)∈sc.names:=by
    rcases hx with hx | hx
    ·exact J70 hx (.inl rfl) S.nocell
    ·exact J70 hx (.inr rfl) S.nocell
   exact hcf _ hx' rfl
  ·rcases (f2 b hb).2.2.2.1 with z | z
   ·exact I2.ok.noex b o e z
   ·have l1:b < X.base.objs.size:=â e;have l2:X.base.objs.size<=X.s₀.heap.objs.size:=I2.ok.bsz;have l3:X.s₀.heap.objs.size<=b:=z;exact absurd l1 (Nat.not_lt.mpr (Ù l2 l3))
 have reset:∀ {pl:List (È × Obj)}{σ':St}{H':Hp}{s':Æ},Inv (c80 X (d70 own capt) sc cl h3.objs.size s2 H2 fp) pl σ' H' s'->Inv (c80 X (d70 own capt) sc cl h3.objs.size s2 H2 fp) pl (s80 own capt σ) H' s':=λ{pl σ' H' s'} I'=>by
  obtain⟨m,hn,_⟩:=I'.loc;refine⟨I'.ok,I'.os,I'.bare,I'.base,⟨m,hn,λi x v e1 e2 _=>R70 I2 S hcl hcf celFp (λc o q n hx=>I'.base.any q n hx) m i x v e1 e2⟩,I'.cell,I'.free,I'.freeC,I'.pin,I'.hok,?_⟩;show(s80 own capt σ).length=(d70 own capt).length;simp[s80,d70]
 have start:Inv (c80 X (d70 own capt) sc cl h3.objs.size s2 H2 fp) [(s2.heap.objs.size,{ cls:=.type "list",data:=.seq ([]:List Ä).toArray 0 })] (s80 own capt σ) H2 { s2 with heap:=h1,toks:=s2.toks + ([]:List (Str × Ä)).length }:=by
  refine⟨okX,rfl,I2.bare,Un.kept old,⟨_,hns1,λi x v e1 e2 _=>R70 I2 S hcl hcf celFp (λc o q _ _=>⟨o.slots,old c o q⟩) _ i x v e1 e2⟩,λx c e=>?_,?_,λx c e=>I2.freeC x c (hcl x c e),λp hp=>?_,I2.hok.kept old,?_⟩
  ·obtain⟨v,q⟩:=I2.cell x c (hcl x c e);exact⟨v,q.keeps old⟩
  ·exact I2.hok.fresh (by show s2.heap.objs.size<=h3.objs.size;omega)
  ·have hp':p=(s2.heap.objs.size,{ cls:=.type "list",data:=.seq ([]:List Ä).toArray 0 }):=by simpa using hp
   subst hp';exact⟨hacc,I2.hok.fresh (Ì _),hDC,λz=>ÿ _ (frLt _ z),λv z=>by cases z⟩
  ·show(s80 own capt σ).length=(d70 own capt).length;simp[s80,d70]
 have i01:∀ {pl:List (È × Obj)}{H':Hp},(∀ p∈pl,p.1 ∉ fp)->(∀ b∈fp,H' b=none)->∀ b∈fp,b21 (c80 X (d70 own capt) sc cl h3.objs.size s2 H2 fp) pl H' b:=λ{pl H'} hp hn b hb =>
  ⟨hn b hb,(below b (fpLt b hb)).1,fpFr b hb,.inl hb,λx c e z=>celFp x c (hcl x c e) (z ▸ hb),λp hpp z=>hp p (by simpa using hpp) (z ▸ hb)⟩
 have hDfp:s2.heap.objs.size ∉ fp:=λz=>ÿ _ (fpLt _ z);have loop:∀ s3:Æ,s3={ s2 with heap:=h1,toks:=s2.toks + ([]:List (Str × Ä)).length } ->
   Ù8 (Ü X.prog X.w) X.A (.compLoop (.ListComp el [⟨tg,src,tests,0⟩] sc ps) 0 (.ref it) (.ref s2.heap.objs.size) (compEnvC sc cl h3.objs.size X.env)) (RR (.ref s2.heap.objs.size) h3.objs.size) s3:=by
  rintro s3 rfl;refine p21 (λn s'=>∃ i ys H' its k,Inv (c80 X (d70 own capt) sc cl h3.objs.size s2 H2 fp) [(s2.heap.objs.size,{ cls:=.type "list",data:=.seq (toArray its) k })] (s80 own capt σ) H' s'/\tn i s'.heap/\(∀ b∈fp,H' b=none)/\Vals ys its/\ys.length<=sizeLine/\W i n ys H') ?_ m0
   ⟨0,[],H2,[],0,start,T.keep _ _ _ st2 λb _ o e=>old b o e,λb hb=>(f2 b hb).1,.nil,Å4 _,w0⟩
  rintro n s' ⟨i,ys,H',its,k,I',st',fr',hv,hz,w'⟩;have pinD:∀ p∈[((s2.heap.objs.size:È),({ cls:=.type "list",data:=.seq (toArray its) k }:Obj))],p.1 ∉ fp:=λp hp=>by
   have hp':p=(s2.heap.objs.size,{ cls:=.type "list",data:=.seq (toArray its) k }):=by simpa using hp
   subst hp';exact hDfp
  rcases turn i n ys H' w' with ⟨stop,q⟩ | ⟨go,hlt,N,hN,step⟩
  ·refine thn (T.done (c80 X (d70 own capt) sc cl h3.objs.size s2 H2 fp) rfl rfl rfl hc i _ s' _ H' NoX I' (i01 pinD fr') st' stop) λr s1 hr=>?_;obtain⟨hr,I1⟩:=hr;subst hr;obtain⟨gD,nD,_,_,_⟩:=I1.pin _ (è _ É);obtain⟨m',hn',_⟩:=id I1.loc;have un:Un (frs X.stack) fp H2 (upd H' s2.heap.objs.size (.lst ys)) s2.heap s1.heap:=by
    have u:=I1.base;have nD2:H2 s2.heap.objs.size=none:=I2.hok.fresh (Ì _);refine⟨u.keep,u.slot,λb o e n hx=>?_,u.there,λb xs e=>?_,λb o xs e=>?_,λb ps' e=>?_⟩
    ·rw[a30 (below b (â e)).2];exact u.free b o e n hx
    ·rw[a30 (b10 e nD2)];exact u.tups b xs e
    ·rw[a30 (b10 e nD2)];exact u.frzs b o xs e
    ·obtain⟨more,e'⟩:=u.tbls b ps' e;exact⟨more,by rw[a30 (b10 e nD2)];exact e'⟩
   have IX:Inv X pins σ (upd H' s2.heap.objs.size (.lst ys)) s1:=I2.t12 I1.os un (I1.hok.E01 nD hv hz gD) I1.bare λb hb=>⟨(f2 b hb).2.2.2.1,(f2 b hb).2.1,(f2 b hb).2.2.2.2.1,(f2 b hb).2.2.2.2.2⟩;refine hRR _ _ _ ⟨_,_,m',rfl,IX,?_,hn',q _ nD⟩;exact I2.i01 ∅ (by rw[a30 hDC.symm];exact I1.free)
  ·refine thn (T.item (c80 X (d70 own capt) sc cl h3.objs.size s2 H2 fp) rfl rfl rfl hc i _ s' _ H' NoX I' (i01 pinD fr') st' go) λr s1 hr=>?_;obtain⟨u,hr,h4⟩:=hr;subst hr;refine thn h4 λ_ s5 hr5=>?_;obtain⟨x,H5,I5,r5,y5,st5,fr5⟩:=hr5;have I5p:=I5.pinned (i01 pinD fr5) (T.obj _ _ st5);refine thn (hg _ _ _ _ _ s5 _ H5 x u _ I5p r5 (step x H5 y5)) λ_ s6 hr6=>?_;obtain⟨σ6,H6,I6,q6⟩:=hr6;refine thn (ht _ _ _ _ _ s6 σ6 H6 _ I6 q6) λok s7 hr7=>?_;obtain⟨H7,I7,q7⟩:=hr7;have memFp:∀ {pl:List (È × Obj)}{b:È}{o:Obj},b∈fp->s5.heap.get? b=some o->(b,o)∈([]:List (È × Obj))++(pl++D00 fp s5.heap):=λhb e=>è _ (è _ (l70 hb e));cases ok with
   |false =>
    rw[if_neg Ó] at q7 ⊢;obtain⟨m',hm,w7⟩:=hN _ _ q7;refine⟨m',hm,i + 1,ys,H7,its,k,reset (I7.C90 λp hp=>I7.pin p (è _ (Ì3 _ hp))),T.keep _ _ _ st5 λb hb o e=>(I7.pin (b,o) (memFp hb e)).1,λb hb=>?_,hv,hz,w7⟩;obtain⟨o,e,_⟩:=T.obj _ _ st5 b hb;exact(I7.pin (b,o) (memFp hb e)).2.1
   |true =>
    rw[if_pos rfl] at q7 ⊢;refine thn (he _ _ f2 _ s7 σ6 H7 _ I7 q7) λuv s8 hr8=>?_;obtain⟨y,H8,I8,r8,q8⟩:=hr8;obtain⟨m',hm,w8⟩:=hN _ _ q8;obtain⟨gD,nD,dC,dF,_⟩:=I8.pin _ (è _ (Ì3 _ É));refine append_at gD (λh9 sb hD9=>?_) (by show(toArray its).size<=sizeLine;rw[Ô,← hv.length];exact hz)
    have I8a:Inv (c80 X (d70 own capt) sc cl h3.objs.size s2 H2 fp) (D00 fp s5.heap) σ6 H8 s8:=I8.C90 λp hp=>I8.pin p (è _ (è _ hp));have I9:Inv (c80 X (d70 own capt) sc cl h3.objs.size s2 H2 fp) (D00 fp s5.heap) σ6 H8 { s8 with heap:=h9 }:=I8a.turned (t':=s8.toks) (λb o hb e=>(sb.2 b hb).trans e) nD dC (.inr (Ì _))
     (λx c e z=>ÿ s2.heap.objs.size (by have:=celLt x c (hcl x c e);rw[z] at this;exact this)) (λp hp z=>hDfp (z ▸ (Q10 (by simpa using hp)).1))
    rw[List.push_toArray] at hD9;refine⟨m',hm,i + 1,ys++[y],H8,its++[uv],k + 1,(reset I9).C90 λp hp=>?_,T.keep _ _ _ st5 λb hb o e=>?_,λb hb=>?_,hv.append (.cons r8 .nil),by rw[À0];exact hlt,w8⟩
    ·have hp':p=(s2.heap.objs.size,{ cls:=.type "list",data:=.seq (toArray (its++[uv])) (k + 1) }):=by simpa using hp
     subst hp';exact⟨hD9,nD,dC,dF,λv z=>by cases z⟩
    ·exact(I9.pin (b,o) (è _ (l70 hb e))).1
    ·obtain⟨o,e,_⟩:=T.obj _ _ st5 b hb;exact(I9.pin (b,o) (è _ (l70 hb e))).2.1
 exact codeAny_compStart_list (loop _ rfl) (T.self _ 0 _ _ _ (T.keep _ _ _ st2 λb _ o e=>old b o e) (loop _ rfl))
end
section
variable {X:Cx}{sc:Á3}{own:List Str}{capt:List (Str × Nat)}{el tg src:Ð}{tests:List Ð}{ps pos:Pos}{wi:TI}{g:TG}{tt:TT}{te:TE}
theorem p41(hc:X.calm=true)(S:H40 X sc own capt)(hi:PI X tg src wi)(hg:∀ cl C s H fp,PG (c80 X (d70 own capt) sc cl C s H fp) tg g)
  (ht:∀ cl C s H fp,PTs (c80 X (d70 own capt) sc cl C s H fp) tests tt) (he:∀ cl C s H fp,PE (c80 X (d70 own capt) sc cl C s H fp) el te)
  (hs:∀ x,Ê4 src X.env x=pure x:=by intro _;rfl):PE X (.ListComp el [⟨tg,src,tests,0⟩] sc ps) (S21 own capt wi g tt te):=by
 intro pins s σ H Q I h;obtain⟨cl,hclos,hcl,hcf⟩:=p11 (scope:=sc) (env:=X.env) λy hy hk=>I.ok.has y.1 (S.frees y hy hk);rw[eval_ListComp];refine wpAny_comprehension_free (use:=none) rfl hs hclos S.kind S.locs (thn (hi pins s σ H _ I h) λv s1 h1=>thn h1 λitv s2 h2=>?_);obtain⟨it,fp,tn,J,H2,e,I2,T,st2,f2,hw⟩:=h2;subst e;refine H50 hc S hcl hcf (hg cl) (ht cl) (λC fp _=>he cl C _ _ fp) I2 T st2 f2 hw (RR:=λacc C=>compPost (Ü X.prog X.w) X.A X.xe none (EP X pins σ Q) acc C) λacc C s' hf=>?_;obtain⟨D,H',m',rfl,I',f',ns',r⟩:=hf;exact⟨m',ns',λh' sb=>⟨.ref D,H',I'.turned (t':=s'.toks) (λb o hb e=>(sb.2 b hb).trans e) f'.1 f'.2.1 f'.2.2.2.1 f'.2.2.2.2.1 f'.2.2.2.2.2,rfl,r⟩⟩
theorem S31{i:Nat}{y:Str}{py:Pos}(hN:X.N.Nodup)(hiN:X.N[i]?=some y)(hy:Loc X.env.scope y)(hsw:Ñ4 (.ListComp el [⟨tg,src,tests,0⟩] sc ps) (some (.Name y py)) pos.line X.env=pure true)
  (hc:X.calm=true) (S:H40 X sc own capt) (hi:PI X tg src wi) (hg:∀ cl C s H fp,PG (c80 X (d70 own capt) sc cl C s H fp) tg g)
  (ht:∀ cl C s H fp,PTs (c80 X (d70 own capt) sc cl C s H fp) tests tt) (he:∀ cl C s H fp,PE (c80 X (d70 own capt) sc cl C s H fp) el te)
  (hs:∀ x,Ê4 src X.env x=pure x:=by intro _;rfl) (hf:X.fn y=true∨X.env.scope.names.lookup y=some .local:=by first | exact .inl rfl | exact .inr rfl | assumption) :
  PS X (.Assign [.Name y py] (.ListComp el [⟨tg,src,tests,0⟩] sc ps) pos) (e42 (S21 own capt wi g tt te) (Q00 i)):=by
 intro pins s σ H D I h;obtain⟨cl,hclos,hcl,hcf⟩:=p11 (scope:=sc) (env:=X.env) λy hy hk=>I.ok.has y.1 (S.frees y hy hk);rw[exec_Assign_Name_used _ _ _ _ hsw];refine Á (Ö8 (Á ?_));show Ñ _ X.A (do let _ ← comprehension (.ListComp el [⟨tg,src,tests,0⟩] sc ps) sc X.env _ (newList []) false (eval src X.env) (some (Õ1 (.Name y py) X.env))) _ _ s;refine Á (Ä4 (wpAny_comprehension_free (use:=some (Õ1 (.Name y py) X.env)) (Q:=λ_ s'=>SP X pins D .next s') rfl hs hclos S.kind S.locs
  (thn (hi pins s σ H _ I h) λv s1 h1=>thn h1 λitv s2 h2=>?_)) (λ_ s' hq=>Ê (Ê hq)) λ_ _ e=>e)
 obtain⟨it,fp,tn,J,H2,e,I2,T,st2,f2,hw⟩:=h2;subst e;refine H50 hc S hcl hcf (hg cl) (ht cl) (λC fp _=>he cl C _ _ fp) I2 T st2 f2 hw (RR:=λacc C=>compPost (Ü X.prog X.w) X.A X.xe (some (Õ1 (.Name y py) X.env)) (λ_ s'=>SP X pins D .next s') acc C) λacc C s' hfn=>?_;obtain⟨DA,H',m',rfl,I',f',ns',r⟩:=hfn;show Ñ _ X.A (Õ1 (.Name y py) X.env (.ref DA)) _ _ _;refine wpAny_assign_Name (P80 (v:=.ref DA) I' hN hiN hy rfl (λs3 I3 ha=>?_) hf);obtain⟨a,sb,ha⟩:=ha;have hCa:C≠a:=λz=>by
  rcases ha with q | q
  ·exact f'.2.1 (z.trans q)
  ·exact f'.2.2.2.2.1 _ _ q z.symm
 exact⟨m',ns'.sameBut sb hCa,λh' sb'=>⟨_,H',I3.turned (t':=s3.toks) (λb o hb e=>(sb'.2 b hb).trans e) f'.1 f'.2.1 f'.2.2.2.1 f'.2.2.2.2.1 f'.2.2.2.2.2,r⟩⟩
end
end L2
namespace L2
open PySem
section
variable {P:ã}{w:ü}{A:À3}{E:Ä->Æ->Prop}{s:Æ}
theorem q40(hr:s.heap.IsTupleIter r t k)(ht:s.heap.IsTuple t vs)(hx:vs[k]?=some x)
  (hQ:∀ h',h'.IsTupleIter r t (k + 1)->Ý0 r s.heap h'->Q x { s with heap:=h' }):Ñ (Ü P w) A (nextOf (.ref r)) Q E s:=by
 obtain⟨o,ho,hc,hd⟩:=id hr;obtain⟨ot,hot,_,nt,hdt⟩:=ht;unfold nextOf;refine Á (Â1 (name:=Á5 "__next__") hr.typeIs Ç7 (Ä2 Ç7 hr.typeIs Ü1 ?_ (Û9 _)));show Ñ _ _ (field (.ref r) 0 >>= _) _ _ s;refine Á (À7 ho hd (x:=.ref t) rfl ?_);show Ñ _ _ (if (Å3 t == å)=true then _ else _) _ _ s;rw[if_neg (show ¬ ((Å3 t == å)=true) from Ó)];show Ñ _ _ (field (.ref r) 1 >>= _) _ _ s;refine Á (À7 ho hd (x:=.int k 0) rfl ?_);show Ñ _ _ (seqItems? (.ref t) >>= _) _ _ s;refine Á (Å7 hot hdt ?_);simp only[Â3,hx];refine Á (wpAny_setField ho hd (by simp) (Ê ⟨x,rfl,Ê (hQ _ ⟨_,Ý4 _ ho (Obj.isFreed_of_fields (Obj.data_mapFields hd _)),(Obj.cls_mapFields ..).trans hc,by rw[Obj.data_mapFields hd];simp[rawInt]⟩ (É7 ..))⟩))
theorem m50(hh:A.handled=none)(hr:s.heap.IsTupleIter r t k)(ht:s.heap.IsTuple t vs)(hx:vs[k]?=none)
  (hE:∀ h' e,õ.ExtBut r s.heap h'->(∃ o,h'.get? e=some o/\o.cls=.type "StopIteration")->E (.ref e) { s with heap:=h' }):Ñ (Ü P w) A (nextOf (.ref r)) Q E s:=by
 obtain⟨o,ho,hc,hd⟩:=id hr;obtain⟨ot,hot,_,nt,hdt⟩:=ht;unfold nextOf;refine Á (Â1 (name:=Á5 "__next__") hr.typeIs Ç7 (Ä2 Ç7 hr.typeIs Ü1 ?_ (Û9 _)));show Ñ _ _ (field (.ref r) 0 >>= _) _ _ s;refine Á (À7 ho hd (x:=.ref t) rfl ?_);show Ñ _ _ (if (Å3 t == å)=true then _ else _) _ _ s;rw[if_neg (show ¬ ((Å3 t == å)=true) from Ó)];show Ñ _ _ (field (.ref r) 1 >>= _) _ _ s;refine Á (À7 ho hd (x:=.int k 0) rfl ?_);show Ñ _ _ (seqItems? (.ref t) >>= _) _ _ s;refine Á (Å7 hot hdt ?_);simp only[Â3,hx];refine Á (Ï1 (Á (wpAny_setField ho hd (by simp) ?_)));show Ñ _ _ (newExc (.type "StopIteration") [] >>= _) _ _ _
 refine Á ?_;simp only[newExc,newTuple];refine Á (ò ?_ (by size_fits));refine Á (m:=firstArgMember _ _) (wpAny_of_eq (a:=å) (by first | rfl | (simp only[firstArgMember];rfl)) ?_)
 refine ò ?_ (by size_fits);simp only[raiseNew];refine Á (wpAny_handled ?_)
 first | rw[show A.in1.handled=none from hh] | rw[hh]
 refine Á (Ê (wpAny_throw (hE _ _ (((É7 ..).extBut.push _).push _) ⟨_,Ï _ rfl,rfl⟩)))
theorem p51{z TI TO i1 i2 l1 l2:È}{k:Nat}{xs ys:Array Ä}{x y a b:Ä}{Q:Option Ä->Æ->Prop}(D:ZipApart z TI TO i1 i2 l1 l2)(hz:Ï6 s.heap z TI TO .none)
  (hTI:Ä5 s.heap TI (.ref i1) (.ref i2)) (hTO:Ä5 s.heap TO a b) (h1:s.heap.IsTupleIter i1 l1 k) (h2:s.heap.IsTupleIter i2 l2 k) (hl1:s.heap.IsTuple l1 xs) (hl2:s.heap.IsTuple l2 ys)
  (hx:xs[k]?=some x) (hy:ys[k]?=some y)
  (hQ:∀ h',Ï6 h' z TI TO (rawInt s.heap.objs.size)->Ä5 h' TO x y->h'.IsTupleIter i1 l1 (k + 1)->h'.IsTupleIter i2 l2 (k + 1)->Ä5 h' s.heap.objs.size x y->h'.objs.size=s.heap.objs.size + 1 ->
   (∀ c o,c≠z->c≠TO->c≠i1->c≠i2->s.heap.get? c=some o->h'.get? c=some o)->Q (some (.ref s.heap.objs.size)) { s with heap:=h' }):Ñ (Ü P w) A (pyNext (.ref z)) Q E s:=by
 have hT:s.TypeIs (.ref z) "zip":=⟨_,hz,rfl⟩;unfold pyNext;refine Á (wpAny_attempt (Â1 (name:=Á5 "__next__") hT Ò3 (Ä2 Ò3 hT F.entry_zip_next ?_ (F.args_zip_next_1 _))));show Ñ _ _ (field (.ref z) 2 >>= _) _ _ _;refine Á (À7 hz rfl (x:=.bool false) rfl ?_);show Ñ _ _ (field (.ref z) 3 >>= _) _ _ _;refine Á (À7 hz rfl (x:=.ref TI) rfl ?_);refine Á (Å7 hTI rfl ?_);show Ñ _ _ (Ê6 (.ref z) >>= _) _ _ _;refine Á ?_;unfold Ê6;refine Á (À7 hz rfl (x:=.none) rfl (Ê ?_));simp only[if_true];refine Á (Ï1 (Á (À7 hz rfl (x:=.ref TO) rfl (Á (Æ4 hz (by simp) λg1 z1 e1=>?_)))))
 replace z1:Ï6 g1 z TI TO .ellipsis:=z1
 refine Á ?_;simp only[List.zipIdx_cons,List.zipIdx_nil,Ê8,Ô1];refine Á (Á (Ö9 ?_));show Ñ _ _ (nextOf (.ref i1) >>= _) _ _ _;refine Á (q40 (h1.extBut e1.extBut D.i1z) (hl1.extBut e1.extBut D.l1z) hx λg2 r2 e2=>Ê ?_);have t2:Ä5 g2 TO a b:=e2.extBut _ _ D.TOi1 (e1.extBut _ _ D.TOz hTO);refine Á (Å7 t2 rfl (Á (Ô7 t2 λg3 t3 e3=>?_)))
 replace t3:Ä5 g3 TO x b:=t3
 refine Á (wpAny_letGo (Ê ?_));refine Á (Á (Ö9 ?_));show Ñ _ _ (nextOf (.ref i2) >>= _) _ _ _;refine Á (q40 (((h2.extBut e1.extBut D.i2z).extBut e2.extBut D.i12.symm).extBut e3.extBut D.TOi2.symm) (((hl2.extBut e1.extBut D.l2z).extBut e2.extBut D.l2i1).extBut e3.extBut D.l2TO) hy λg4 r4 e4=>Ê ?_);have t4:Ä5 g4 TO x b:=e4.extBut _ _ D.TOi2 t3;refine Á (Å7 t4 rfl (Á (Ô7 t4 λg5 t5 e5=>?_)))
 replace t5:Ä5 g5 TO x y:=t5
 refine Á (wpAny_letGo (Ê (Ê ?_)));refine Á (Å7 t5 rfl (Á (wpAny_newTuple ?_)));have sz:g5.objs.size=s.heap.objs.size:=by rw[e5.1,e4.1,e3.1,e2.1,e1.1]
 have z5:Ï6 g5 z TI TO .ellipsis:=e5.extBut _ _ D.TOz.symm (e4.extBut _ _ D.i2z.symm (e3.extBut _ _ D.TOz.symm (e2.extBut _ _ D.i1z.symm z1)));have kp:∀ c o,c≠z->c≠TO->c≠i1->c≠i2->s.heap.get? c=some o->g5.get? c=some o:=λc o c1 c2 c3 c4 e=>e5.extBut _ _ c2 (e4.extBut _ _ c4 (e3.extBut _ _ c2 (e2.extBut _ _ c3 (e1.extBut _ _ c1 e))));have r1:g5.IsTupleIter i1 l1 (k + 1):=((r2.extBut e3.extBut D.TOi1.symm).extBut e4.extBut D.i12).extBut e5.extBut D.TOi1.symm;have r5:g5.IsTupleIter i2 l2 (k + 1):=r4.extBut e5.extBut D.TOi2.symm;have zl:z < g5.objs.size:=â z5;show Ñ _ _ (ownedTupleHandOut (.ref z) (.ref g5.objs.size) >>= _) _ _ _;refine Á ?_;unfold ownedTupleHandOut;have z6:Ï6 (g5.push { cls:=.type "tuple",data:=.seq #[x,y] }) z TI TO .ellipsis:=Ã _ z5;refine Á (Æ4 z6 (by simp) λg7 z7 e7=>?_)
 replace z7:Ï6 g7 z TI TO (rawInt g5.objs.size):=z7
 refine Æ4 z7 (by simp) λg8 z8 e8=>?_
 replace z8:Ï6 g8 z TI TO (rawInt g5.objs.size):=z8
 have up:∀ c o,c≠z->g5.get? c=some o->g8.get? c=some o:=λc o c1 e=>e8.extBut _ _ c1 (e7.extBut _ _ c1 (Ã _ e));have t8:Ä5 g8 g5.objs.size x y:=e8.extBut _ _ (Ó2 zl) (e7.extBut _ _ (Ó2 zl) (Ï _ rfl));have s8:g8.objs.size=g5.objs.size + 1:=by rw[e8.1,e7.1,Í5]
 rw[sz] at z8 t8 s8;refine Ê ⟨_,rfl,?_⟩;refine Ê ?_;show Q (some (.ref g5.objs.size)) _;rw[sz];exact hQ g8 z8 (up _ _ D.TOz t5) (by obtain⟨o,ho,q⟩:=r1;exact⟨o,up _ o D.i1z ho,q⟩) (by obtain⟨o,ho,q⟩:=r5;exact⟨o,up _ o D.i2z ho,q⟩) t8 s8 λc o c1 c2 c3 c4 e=>up c o c1 (kp c o c1 c2 c3 c4 e)
theorem E21{z TI TO i1 i2 l1 l2:È}{k:Nat}{xs ys:Array Ä}{a b:Ä}{Q:Option Ä->Æ->Prop}(hh:A.handled=none)(D:ZipApart z TI TO i1 i2 l1 l2)(hz:Ï6 s.heap z TI TO .none)
  (hTI:Ä5 s.heap TI (.ref i1) (.ref i2)) (hTO:Ä5 s.heap TO a b) (h1:s.heap.IsTupleIter i1 l1 k) (h2:s.heap.IsTupleIter i2 l2 k) (hl1:s.heap.IsTuple l1 xs) (hl2:s.heap.IsTuple l2 ys)
  (hend:xs[k]?=none∨ys[k]?=none) (hQ:∀ h',(∀ c o,c≠z->c≠TO->c≠i1->c≠i2->s.heap.get? c=some o->h'.get? c=some o)->Q none { s with heap:=h' }):Ñ (Ü P w) A (pyNext (.ref z)) Q E s:=by
 have hT:s.TypeIs (.ref z) "zip":=⟨_,hz,rfl⟩;have fin:∀ (h':õ) (e:È),(∀ c o,c≠z->c≠TO->c≠i1->c≠i2->s.heap.get? c=some o->h'.get? c=some o)->(∃ o,h'.get? e=some o/\o.cls=.type "StopIteration") ->
   Ñ (Ü P w) A (isInstance (.ref e) (.type "StopIteration") >>= λb=>if b=true then pure none else throw (.ref e)) Q E { s with heap:=h' }:=λh' e kp he=>by
  obtain⟨o,ho,hc⟩:=he;exact Á (wpAny_isInstance (T:="StopIteration") (b:=true) ⟨o,ho,hc⟩ isSubtype_stop (Ê (hQ _ kp)))
 unfold pyNext;refine Á (wpAny_attempt (Â1 (name:=Á5 "__next__") hT Ò3 (Ä2 Ò3 hT F.entry_zip_next ?_ (F.args_zip_next_1 _))));show Ñ _ _ (field (.ref z) 2 >>= _) _ _ _;refine Á (À7 hz rfl (x:=.bool false) rfl ?_);show Ñ _ _ (field (.ref z) 3 >>= _) _ _ _;refine Á (À7 hz rfl (x:=.ref TI) rfl ?_);refine Á (Å7 hTI rfl ?_);show Ñ _ _ (Ê6 (.ref z) >>= _) _ _ _;refine Á ?_;unfold Ê6;refine Á (À7 hz rfl (x:=.none) rfl (Ê ?_));simp only[if_true];refine Á (Ï1 (Á (À7 hz rfl (x:=.ref TO) rfl (Á (Æ4 hz (by simp) λg1 z1 e1=>?_)))))
 replace z1:Ï6 g1 z TI TO .ellipsis:=z1
 refine Á ?_;simp only[List.zipIdx_cons,List.zipIdx_nil,Ê8,Ô1];refine Á (Á (Ö9 ?_));show Ñ _ _ (nextOf (.ref i1) >>= _) _ _ _;cases hx:xs[k]? with
 |none =>
  refine Á (m50 hh (h1.extBut e1.extBut D.i1z) (hl1.extBut e1.extBut D.l1z) hx λg2 e e2 he=>?_);obtain⟨oe,hoe,hce⟩:=he;have z2:Ï6 g2 z TI TO .ellipsis:=e2 _ _ D.i1z.symm z1;have hez:e≠z:=λq=>by subst q;rw[z2] at hoe;cases hoe;simp at hce
  exact Æ4 z2 (by simp) λg3 _ e3=>fin g3 e (λc o c1 _ c3 _ q=>e3.extBut _ _ c1 (e2 _ _ c3 (e1.extBut _ _ c1 q))) ⟨oe,e3.extBut _ _ hez hoe,hce⟩
 |some x =>
  have hy:ys[k]?=none:=by rcases hend with q | q;rw[hx] at q;cases q;exact q
  refine Á (q40 (h1.extBut e1.extBut D.i1z) (hl1.extBut e1.extBut D.l1z) hx λg2 r2 e2=>Ê ?_);have t2:Ä5 g2 TO a b:=e2.extBut _ _ D.TOi1 (e1.extBut _ _ D.TOz hTO);refine Á (Å7 t2 rfl (Á (Ô7 t2 λg3 t3 e3=>?_)));refine Á (wpAny_letGo (Ê ?_));refine Á (Á (Ö9 ?_));show Ñ _ _ (nextOf (.ref i2) >>= _) _ _ _;refine Á (m50 hh (((h2.extBut e1.extBut D.i2z).extBut e2.extBut D.i12.symm).extBut e3.extBut D.TOi2.symm) (((hl2.extBut e1.extBut D.l2z).extBut e2.extBut D.l2i1).extBut e3.extBut D.l2TO) hy λg4 e e4 he=>?_);obtain⟨oe,hoe,hce⟩:=he;have z4:Ï6 g4 z TI TO .ellipsis:=e4 _ _ D.i2z.symm (e3.extBut _ _ D.TOz.symm (e2.extBut _ _ D.i1z.symm z1));have hez:e≠z:=λq=>by subst q;rw[z4] at hoe;cases hoe;simp at hce
  exact Æ4 z4 (by simp) λg5 _ e5=>fin g5 e (λc o c1 c2 c3 c4 q=>e5.extBut _ _ c1 (e4 _ _ c4 (e3.extBut _ _ c2 (e2.extBut _ _ c3 (e1.extBut _ _ c1 q))))) ⟨oe,e5.extBut _ _ hez hoe,hce⟩
abbrev zT1(h:õ)(l1:È):Heap:=h.push { cls:=.type "tuple_iterator",data:=.fields #[.ref l1,.int 0 0] }
abbrev zT2(h:õ)(l1 l2:È):Heap:=(zT1 h l1).push { cls:=.type "tuple_iterator",data:=.fields #[.ref l2,.int 0 0] }
abbrev zT3(h:õ)(l1 l2:È):Heap:=(zT2 h l1 l2).push { cls:=.type "tuple",data:=.seq #[.ref h.objs.size,.ref (zT1 h l1).objs.size] }
abbrev zT4(h:õ)(l1 l2:È):Heap:=(zT3 h l1 l2).push { cls:=.type "tuple",data:=.seq #[.none,.none] }
abbrev zT5(h:õ)(l1 l2:È):Heap:=(zT4 h l1 l2).push { cls:=.type "zip",data:=.fields #[.none,.bool false,.bool false,.ref (zT2 h l1 l2).objs.size,.ref (zT3 h l1 l2).objs.size] }
theorem i81(l1 l2:È)(xs ys:Array Ä) :
  Meets (Å6.«zip.__new__» ⟨[.type "zip",.ref l1,.ref l2],[]⟩) (λ_ R s=>s.heap.IsTuple l1 xs/\s.heap.IsTuple l2 ys/\R (.ok (.ret (.ref (zT4 s.heap l1 l2).objs.size))) { s with heap:=zT5 s.heap l1 l2 }) :=
 .of_wp λP w A R s h=>by
  obtain⟨hp,g,d,tk,os⟩:=s;obtain⟨hl1,hl2,h⟩:=h;have hsub:=sub_zip;have hL1:Ð9 (Æ.heap ⟨hp,g,d,tk,os⟩) l1 xs:=hl1;have hL2:Ð9 (Æ.heap ⟨hp.push { cls:=.type "tuple_iterator",data:=.fields #[.ref l1,.int 0 0] },g,d,tk,os⟩) l2 ys:=Ð9.push hl2 _
  wp_walk using É6 hL1,É6 hL2
  exact⟨_,rfl,h⟩
theorem p61(hl1:s.heap.IsTuple l1 xs)(hl2:s.heap.IsTuple l2 ys)
  (h:∀ h',Ï6 h' (s.heap.objs.size + 4) (s.heap.objs.size + 2) (s.heap.objs.size + 3) .none->Ä5 h' (s.heap.objs.size + 2) (.ref s.heap.objs.size) (.ref (s.heap.objs.size + 1))->Ä5 h' (s.heap.objs.size + 3) .none .none ->
   h'.IsTupleIter s.heap.objs.size l1 0->h'.IsTupleIter (s.heap.objs.size + 1) l2 0->(∀ c o,s.heap.get? c=some o->h'.get? c=some o)->Q (.ref (s.heap.objs.size + 4)) { s with heap:=h' }) :
  Ñ (Ü P w) A (call (.type "zip") [.ref l1,.ref l2]) Q E s:=by
 refine callType_new F.called_zip (-0) (F.typeCall_zip_2 _ _) (F.newCall_zip_2 _ _) (λobj=>F.args_object_init_3 obj _ _) F.entry_zip_new (i81 l1 l2 xs ys) ⟨hl1,hl2,?_⟩
 have n1:(zT1 s.heap l1).objs.size=s.heap.objs.size + 1:=Í5 ..;have n2:(zT2 s.heap l1 l2).objs.size=s.heap.objs.size + 2:=by rw[Í5,n1]
 have n3:(zT3 s.heap l1 l2).objs.size=s.heap.objs.size + 3:=by rw[Í5,n2]
 have n4:(zT4 s.heap l1 l2).objs.size=s.heap.objs.size + 4:=by rw[Í5,n3]
 have g5:(zT5 s.heap l1 l2).get? (zT4 s.heap l1 l2).objs.size=some _:=Ï _ rfl;have g4:(zT5 s.heap l1 l2).get? (zT3 s.heap l1 l2).objs.size=some _:=Ã _ (Ï _ rfl);have g3:(zT5 s.heap l1 l2).get? (zT2 s.heap l1 l2).objs.size=some _:=Ã _ (Ã _ (Ï _ rfl));have g2:(zT5 s.heap l1 l2).get? (zT1 s.heap l1).objs.size=some _:=Ã _ (Ã _ (Ã _ (Ï _ rfl)));have g1:(zT5 s.heap l1 l2).get? s.heap.objs.size=some _:=Ã _ (Ã _ (Ã _ (Ã _ (Ï _ rfl))));show _/\_;rw[n2,n3,n4] at g5;rw[n1,n2] at g3;rw[n3] at g4;rw[n1] at g2;rw[n4];exact⟨⟨_,g5,rfl⟩,h _ g5 g3 g4 ⟨_,g1,rfl,rfl⟩ ⟨_,g2,rfl,rfl⟩ λc o q=>Ã _ (Ã _ (Ã _ (Ã _ (Ã _ q))))⟩
end
open PySem PySem.Spec PyProof.Rows
section
variable {X:Cx}{pins:List (È × Obj)}{σ:St}{H:Hp}{s:Æ}{h':õ}
theorem Inv.J80{t':Nat}{ch:List È}(I:Inv X pins σ H s)(hf:∀ b∈ch,b21 X pins H b)(k:∀ b o,b ∉ ch->s.heap.get? b=some o->h'.get? b=some o):Inv X pins σ H { s with heap:=h',toks:=t' }:=by
 have nch:∀ b u,H b=some u->b ∉ ch:=λb u e z=>by rw[(hf b z).1] at e;cases e
 refine I.step (g':=s.gens) (d':=s.drawn) (ch:=ch) (λb hb=>⟨(hf b hb).2.2.2.1,(hf b hb).2.1,(hf b hb).2.2.2.2.1,(hf b hb).2.2.2.2.2⟩) (λb o _ _ hc e _=>k b o hc e) (λb o _ _ hc e _=>⟨o.slots,k b o hc e⟩) (λ_ _ _ _ n=>n)
  (λb o hc e=>⟨o,k b o hc e⟩) (λ_ _ e=>e) (λ_ _ _ e=>e) (λb ps e=>⟨#[],by rw[e];simp⟩) (λm hm=>?_) (λb u e=>?_) I.bare
 ·obtain⟨o,es,ep,ho,r⟩:=hm;exact⟨o,es,ep,k _ o (λz=>(hf _ z).2.1 rfl) ho,r⟩
 ·refine(I.hok b u e).C71 (λc v hc q=>k c v ?_ q) (λ_ q=>q) λ_ _ q=>q;rcases hc with z | z
  ·rw[z];exact nch b u e
  ·exact nch c _ z
theorem Inv.E01{T:È}{o:HO}(I:Inv X pins σ H s)(f:b21 X pins H T)(h0:X.s₀.heap.objs.size<=T)(hok:HOk X.prog X.w (upd H T o) s.heap):Inv X pins σ (upd H T o) s:=by
 have u:=I.base;refine⟨I.ok,I.os,I.bare,⟨u.keep,u.slot,λb ob e n hx=>?_,u.there,λb xs e=>?_,λb ob xs e=>?_,λb ps e=>?_⟩,I.loc,I.cell,?_,λx c e=>?_,λp hp=>?_,hok,I.len⟩
 ·rw[a30 (ê (à (â e) h0))];exact u.free b ob e n hx
 ·have z:=u.tups b xs e;rw[a30 (b10 z f.1)];exact z
 ·have z:=u.frzs b ob xs e;rw[a30 (b10 z f.1)];exact z
 ·obtain⟨more,z⟩:=u.tbls b ps e;exact⟨more,by rw[a30 (b10 z f.1)];exact z⟩
 ·rw[a30 f.2.1.symm];exact I.free
 ·rw[a30 (f.2.2.2.2.1 x c e)];exact I.freeC x c e
 ·obtain⟨e,n,r⟩:=I.pin p hp;exact⟨e,by rw[a30 (f.2.2.2.2.2 p hp)];exact n,r⟩
theorem HOk.M51{P:ã}{w:ü}{H:Hp}{h:õ}{D:È}{ys:List V}{its:List Ä}(x:HOk P w H h)(hn:H D=none)(hv:Vals ys its)(hz:ys.length<=sizeLine)(ho:Í0 h D its.toArray):HOk P w (upd H D (.tup ys)) h:=λb u e=>by
 by_cases hb:b=D
 ·subst hb;rw[b50] at e;cases e;exact⟨hz,its,hv,ho⟩
 ·rw[a30 hb] at e;exact(x b u e).C71 (λc v _ q=>q) (λc q=>by rw[a30 (b10 q hn)];exact q) λc xs q=>by rw[a30 (b10 q hn)];exact q
end
def SqB:Bool->Â->Hp->È->List V->Prop
 |true=>SqL|false=>SqT
def R80:Bool->õ->È->È->Nat->Prop
 |true=>õ.IsListIter|false=>õ.IsTupleIter
def E31:Bool->õ->È->Array Ä->Prop
 |true=>õ.IsList|false=>Ð9
theorem R80.obj{b:Bool}{h:õ}{it a:È}{i:Nat}(st:R80 b h it a i):∃ o,h.get? it=some o/\(∀ v,o.data=.cell v->False)/\∀ h':õ,h'.get? it=some o->R80 b h' it a i:=by
 cases b with
 |true=>obtain⟨o,g,c,d⟩:=st;exact⟨o,g,(λv e=>by rw[d] at e;cases e),λh' k=>⟨o,k,c,d⟩⟩
 |false=>obtain⟨o,g,c,d⟩:=st;exact⟨o,g,(λv e=>by rw[d] at e;cases e),λh' k=>⟨o,k,c,d⟩⟩
theorem Inv.E41(I:Inv X pins σ H s)(h:SqB b X.K H a xs):∃ its:List Ä,Vals xs its/\E31 b s.heap a its.toArray/\a < s.heap.objs.size/\∀ ys,SqB b X.K H a ys->ys=xs:=by
 cases b with
 |true=>obtain⟨its,r,p,_⟩:=I.list h;exact⟨its,r,p.isList,by obtain⟨o,e,_⟩:=p.isList;exact â e,λys h'=>I.b01 h' h⟩
 |false=>obtain⟨its,r,p,_⟩:=I.tuple h;exact⟨its,r,p,by obtain⟨o,e,_⟩:=p;exact â e,λys h'=>I.P90 h' h⟩
section
variable {P:ã}{w:ü}{A:À3}{E:Ä->Æ->Prop}{s:Æ}{b:Bool}{z TI TO i1 i2 l1 l2:È}{k:Nat}{xs ys:Array Ä}{x y p q:Ä}
theorem p71{Q:Option Ä->Æ->Prop}(D:ZipApart z TI TO i1 i2 l1 l2)(hz:Ï6 s.heap z TI TO .none)(hTI:Ä5 s.heap TI (.ref i1) (.ref i2))(hTO:Ä5 s.heap TO p q)(h1:R80 b s.heap i1 l1 k)(h2:R80 b s.heap i2 l2 k)(hl1:E31 b s.heap l1 xs)(hl2:E31 b s.heap l2 ys)(hx:xs[k]?=some x)(hy:ys[k]?=some y)
  (hQ:∀ h',Ï6 h' z TI TO (rawInt s.heap.objs.size)->Ä5 h' TO x y->R80 b h' i1 l1 (k + 1)->R80 b h' i2 l2 (k + 1)->Ä5 h' s.heap.objs.size x y->h'.objs.size=s.heap.objs.size + 1 ->
   (∀ c o,c≠z->c≠TO->c≠i1->c≠i2->s.heap.get? c=some o->h'.get? c=some o)->Q (some (.ref s.heap.objs.size)) { s with heap:=h' }):Ñ (Ü P w) A (pyNext (.ref z)) Q E s:=match b,h1,h2,hl1,hl2,hQ with
 |true,h1,h2,hl1,hl2,hQ=>wpAny_pyNext_zip_item D hz hTI hTO h1 h2 hl1 hl2 hx hy hQ|false,h1,h2,hl1,hl2,hQ=>p51 D hz hTI hTO h1 h2 hl1 hl2 hx hy hQ
theorem E51{Q:Option Ä->Æ->Prop}(hh:A.handled=none)(D:ZipApart z TI TO i1 i2 l1 l2)(hz:Ï6 s.heap z TI TO .none)(hTI:Ä5 s.heap TI (.ref i1) (.ref i2))(hTO:Ä5 s.heap TO p q)(h1:R80 b s.heap i1 l1 k)(h2:R80 b s.heap i2 l2 k)(hl1:E31 b s.heap l1 xs)(hl2:E31 b s.heap l2 ys)
  (hend:xs[k]?=none∨ys[k]?=none) (hQ:∀ h',(∀ c o,c≠z->c≠TO->c≠i1->c≠i2->s.heap.get? c=some o->h'.get? c=some o)->Q none { s with heap:=h' }):Ñ (Ü P w) A (pyNext (.ref z)) Q E s:=match b,h1,h2,hl1,hl2 with
 |true,h1,h2,hl1,hl2=>wpAny_pyNext_zip_end hh D hz hTI hTO h1 h2 hl1 hl2 hend hQ|false,h1,h2,hl1,hl2=>E21 hh D hz hTI hTO h1 h2 hl1 hl2 hend hQ
theorem p81{Q:Ä->Æ->Prop}(hl1:E31 b s.heap l1 xs)(hl2:E31 b s.heap l2 ys)
  (h:∀ h',Ï6 h' (s.heap.objs.size + 4) (s.heap.objs.size + 2) (s.heap.objs.size + 3) .none->Ä5 h' (s.heap.objs.size + 2) (.ref s.heap.objs.size) (.ref (s.heap.objs.size + 1))->Ä5 h' (s.heap.objs.size + 3) .none .none ->
   R80 b h' s.heap.objs.size l1 0->R80 b h' (s.heap.objs.size + 1) l2 0->(∀ c o,s.heap.get? c=some o->h'.get? c=some o)->Q (.ref (s.heap.objs.size + 4)) { s with heap:=h' }):Ñ (Ü P w) A (call (.type "zip") [.ref l1,.ref l2]) Q E s:=match b,hl1,hl2,h with
 |true,hl1,hl2,h=>call_zip_2 hl1 hl2 λh' a1 a2 a3 a4 a5 _ a6=>h h' a1 a2 a3 a4 a5 a6|false,hl1,hl2,h=>p61 hl1 hl2 h
end
def Itz(b:Bool)(K:Â)(a c:È):It :=
 ⟨λi H=>∃ xs ys x y,SqB b K H a xs/\SqB b K H c ys/\xs[i]?=some x/\ys[i]?=some y,
  λi H v H'=>∃ T,v=.ref T/\H T=none/\∀ xs ys x y,SqB b K H a xs->SqB b K H c ys->xs[i]?=some x->ys[i]?=some y->H'=upd H T (.tup [x,y]),
  λi H=>∃ xs ys,SqB b K H a xs/\SqB b K H c ys/\(xs.length<=i∨ys.length<=i)⟩
theorem E61{P:ã}{w:ü}{K:Â}{es:List Ð}{ek:Nat}{ep:Pos}{b:Bool}{a c z TI TO i1 i2:È}(D:ZipApart z TI TO i1 i2 a c) :
  Turn P w K (.Tuple es ek ep) (Itz b K a c) [z,TI,TO,i1,i2] z (λi h=>Ï6 h z TI TO .none/\Ä5 h TI (.ref i1) (.ref i2)/\(∃ p q,Ä5 h TO p q)/\R80 b h i1 a i/\R80 b h i2 c i) where
 mem:=by simp
 obj:=λi h st c hc=>by
  obtain⟨hz,hTI,⟨p,q,hTO⟩,h1,h2⟩:=st;obtain⟨o1,h1,d1,_⟩:=h1.obj;obtain⟨o2,h2,d2,_⟩:=h2.obj;simp only[Á1,Â5,or_false] at hc;rcases hc with rfl | rfl | rfl | rfl | rfl
  ·exact⟨_,hz,λv e=>by cases e⟩
  ·exact⟨_,hTI,λv e=>by cases e⟩
  ·exact⟨_,hTO,λv e=>by cases e⟩
  ·exact⟨_,h1,d1⟩
  ·exact⟨_,h2,d2⟩
 keep:=λi h h' st k=>by
  obtain⟨hz,hTI,⟨p,q,hTO⟩,h1,h2⟩:=st;obtain⟨o1,h1,_,r1⟩:=h1.obj;obtain⟨o2,h2,_,r2⟩:=h2.obj;exact⟨k z (by simp) _ hz,k TI (by simp) _ hTI,⟨p,q,k TO (by simp) _ hTO⟩,r1 _ (k i1 (by simp) _ h1),r2 _ (k i2 (by simp) _ h2)⟩
 item:=by
  intro X hP hw hK hc i pins s σ H E I hf st hg;subst hP hw hK;obtain⟨xs,ys,x,y,hq1,hq2,hx,hy⟩:=hg;obtain⟨v1,rv1,p1,_,z1⟩:=I.E41 hq1;obtain⟨v2,rv2,p2,_,z2⟩:=I.E41 hq2;obtain⟨u1,hu1,ru1⟩:=rv1.get hx;obtain⟨u2,hu2,ru2⟩:=rv2.get hy;obtain⟨hz,hTI,⟨p,q,hTO⟩,h1,h2⟩:=st;refine p71 D hz hTI hTO h1 h2 p1 p2 (x:=u1) (y:=u2) (by simpa using hu1) (by simpa using hu2) λg1 gz gTO g1' g2' gT gs kp=>⟨_,rfl,?_⟩
  refine wpAny_letOwnedTupleGo_zip (s:={ s with heap:=g1 }) gz λg2 gz2 sb=>?_;have hT:H s.heap.objs.size=none:=I.hok.fresh (Ì _);have kall:∀ c o,c ∉ [z,TI,TO,i1,i2]->s.heap.get? c=some o->g2.get? c=some o:=λc o hc e=>by
   simp only[Á1,Â5,or_false,not_or] at hc;exact sb.extBut _ _ hc.1 (kp c o hc.1 hc.2.2.1 hc.2.2.2.1 hc.2.2.2.2 e)
  have I2:Inv X pins σ H { s with heap:=g2 }:=I.J80 (t':=s.toks) hf kall;have fT:b21 X pins H s.heap.objs.size:=I.i01 (Ì _) hT;have gT2:g2.get? s.heap.objs.size=some { cls:=.type "tuple",data:=.seq #[u1,u2] }:=sb.extBut _ _ (λe=>ÿ _ (by have:=â hz;rw[← e] at this;exact this)) gT
  have I3:Inv X pins σ (upd H s.heap.objs.size (.tup [x,y])) { s with heap:=g2 }:=I2.E01 fT I.sz (I2.hok.M51 hT (its:=[u1,u2]) (.cons ru1 (.cons ru2 .nil)) (by show 2<=sizeLine;rw[Á4];decide) ⟨_,gT2,rfl,_,rfl⟩)
  have TI0:Ä5 g2 TI (.ref i1) (.ref i2):=sb.extBut _ _ D.TIz (kp _ _ D.TIz D.TITO D.TIi1 D.TIi2 hTI);obtain⟨o1,w1,_,r1⟩:=g1'.obj;obtain⟨o2,w2,_,r2⟩:=g2'.obj;refine⟨.ref s.heap.objs.size,_,I3,rfl,⟨_,rfl,hT,λxs' ys' x' y' e1 e2 e3 e4=>?_⟩,⟨gz2,TI0,⟨_,_,sb.extBut _ _ D.TOz gTO⟩,r1 _ (sb.extBut _ _ D.i1z w1),r2 _ (sb.extBut _ _ D.i2z w2)⟩,λc hc=>?_⟩
  ·rw[z1 _ e1] at e3;rw[z2 _ e2] at e4;rw[hx] at e3;rw[hy] at e4;cases e3;cases e4;rfl
  ·rw[a30]
   ·exact(hf c hc).1
   ·intro e;obtain⟨o1,h1,_⟩:=h1.obj;obtain⟨o2,h2,_⟩:=h2.obj;have lt:c < s.heap.objs.size:=by
     simp only[Á1,Â5,or_false] at hc;rcases hc with rfl | rfl | rfl | rfl | rfl
     ·exact â hz
     ·exact â hTI
     ·exact â hTO
     ·exact â h1
     ·exact â h2
    rw[e] at lt;exact ÿ _ lt
 done:=by
  intro X hP hw hK hc i pins s σ H E I hf st hg;subst hP hw hK;obtain⟨xs,ys,hq1,hq2,hend⟩:=hg;obtain⟨v1,rv1,p1,_⟩:=I.E41 hq1;obtain⟨v2,rv2,p2,_⟩:=I.E41 hq2;obtain⟨hz,hTI,⟨p,q,hTO⟩,h1,h2⟩:=st;have l1:=rv1.length;have l2:=rv2.length;refine E51 (I.ok.hd hc) D hz hTI hTO h1 h2 p1 p2 (hend.elim (λe=>.inl (by simp;omega)) λe=>.inr (by simp;omega)) λg kp=>⟨rfl,I.J80 (t':=s.toks) hf λc o hcn e=>?_⟩
  simp only[Á1,Â5,or_false,not_or] at hcn;exact kp c o hcn.1 hcn.2.2.1 hcn.2.2.2.1 hcn.2.2.2.2 e
 self:=λ_ _ _ _ _ st h=>wpAny_pyIter_zip st.1 h
def K52(K:Â)(ta:TA):TI:=λσ H R=>ta σ H λvs H1=>∃ b a c,vs=[.ref a,.ref c]/\(∃ xs,SqB b K H1 a xs)/\(∃ ys,SqB b K H1 c ys)/\R (Itz b K a c) H1
theorem boot_zip:í "zip"=some (.type "zip"):=by decide +kernel
theorem g32{X:Cx}{a b:Ð}{es:List Ð}{ek:Nat}{ep:Pos}{ta:TA}{p pos:Pos}(hg:Gl X "zip")(hm:X.mg "zip"=none)(ha:PA X [a,b] ta)(hs:ý [a,b] X.env=[(false,eval a X.env),(false,eval b X.env)]:=by rfl)(hs2:ý [b] X.env=[(false,eval b X.env)]:=by rfl) :
  PI X (.Tuple es ek ep) (.Call (.Name "zip" p) [a,b] [] pos) (K52 X.K ta):=by
 intro pins s σ H R I h;refine Call_ (u90 I hg hm boot_zip (À4 (thn (ha pos pins s σ H _ I h) λus s1 ⟨vs,H1,I1,r1,q1⟩=>?_) (by rw[hs,hs2]) (by rw[hs2];rfl)))
 obtain⟨b,l1,l2,e,⟨xs,hq1⟩,⟨ys,hq2⟩,q⟩:=q1;subst e;obtain⟨u,w',rfl,r,r'⟩:=vals2 r1;cases r;cases r';obtain⟨v1,rv1,p1,a1,_⟩:=I1.E41 hq1;obtain⟨v2,rv2,p2,a2,_⟩:=I1.E41 hq2;refine p81 p1 p2 λh' hz hTI hTO h1 h2 kp=>wpAny_pyIter_zip (s:={ s1 with heap:=h' }) hz ?_;refine⟨_,[s1.heap.objs.size + 4,s1.heap.objs.size + 2,s1.heap.objs.size + 3,s1.heap.objs.size,s1.heap.objs.size + 1],_,_,H1,rfl,I1.kept (t':=s1.toks) kp,E61 (PyProof.Rows.zipApart_new a1 a2),⟨hz,hTI,⟨_,_,hTO⟩,h1,h2⟩,λc hc=>?_,q⟩;have hc':s1.heap.objs.size<=c:=by
  simp only[Á1,Â5,or_false] at hc;rcases hc with rfl | rfl | rfl | rfl | rfl
  ·exact È0 _ 4
  ·exact È0 _ 2
  ·exact È0 _ 3
  ·exact Ì _
  ·exact È0 _ 1
 exact I1.i01 hc' (I1.hok.fresh hc')
theorem E71(hc:X.calm=true):g60 X (.builtin "all") (λxs H Q=>∃ (a:È) (bs:List Bool),xs=[.ref a]/\SqL X.K H a (bs.map V.bl)/\Q (.bl (bs.all id)) H):=by
 intro pins s σ H xs us Q I r h;obtain⟨a,bs,rfl,hq,q⟩:=h;obtain⟨u,rfl,rx⟩:=vals1 r;cases rx;obtain⟨its,rv,pl,hz⟩:=I.list hq;have hlt:a < s.heap.objs.size:=by obtain⟨_,e,_⟩:=pl.isList;exact â e
 have hlen:its.length=bs.length:=by have:=rv.length;simpa using this.symm
 refine call_all_walk (wpAny_pyIter_list pl.isList ⟨_,_,_,_,_,_,λi=>(bs[i]?).getD true,rfl,Walks.list (by exact I.ok.hd hc) s.heap.objs.size a (ê hlt) its.toArray,⟨⟨_,Ï _ rfl,rfl,rfl⟩,pl.isList.push _⟩,?_,?_⟩)
 ·intro i v s' Q' E' hP hQ;have hP':its[i]?=some v:=by simpa using hP
  have hi:i < bs.length:=by rw[← hlen];exact(ä.mp hP').1
  obtain⟨v',hv',rv'⟩:=rv.get (i:=i) (x:=.bl bs[i]) (by simp[hi])
  rw[hP'] at hv';cases hv';cases (show v=Ì7 _ from rv');exact Á8 (by simpa [hi] using hQ)
 ·intro h' tk kp;refine⟨.bl (bs.all id),H,I.kept λb o e=>kp b o (by simpa using ê (â e)) (Ã _ e),?_,q⟩
  show Ì7 _=Ì7 _;rw[Ô,hlen,PyProof.Rows.LSm.range_all]
end L2
namespace MySort
open PySem PySem.W PyProof.Rows
def run{α:Type}(cmp:Nat->Nat->Bool):KasT α->α
 |.ret a=>a|.ask i j k=>run cmp (k (cmp i j))
theorem run_bind(cmp:Nat->Nat->Bool)(f:α->KasT β):∀ t:KasT α,run cmp (t.bind f)=run cmp (f (run cmp t))
 |.ret _=>rfl|.ask i j k=>run_bind cmp f (k (cmp i j))
section
variable (O:KeyOrd) (key:Nat->O.α)
def kk(p:Array Nat)(i:Nat):O.α:=key (p.getD i 0)
abbrev l60:Nat->Nat->Bool:=λi j=>O.blt (key i) (key j)
def Up(p:Array Nat)(n:Nat):Prop:=∀ i j,i<=j->j < n->O.kle (kk O key p i) (kk O key p j)
def Dn(p:Array Nat)(n:Nat):Prop:=∀ i j,i<=j->j < n->O.kle (kk O key p j) (kk O key p i)
variable {O key}
theorem v50(h:p[i]?=q[j]?):kk O key p i=kk O key q j:=by
 unfold kk;rw[Ì1,Ì1,h]
theorem p91(hj:j<=p.size)(k:Nat):kk O key (Æ5 p i j) k=if i<=k/\k < j then kk O key p (i + j - 1 - k) else kk O key p k:=by
 have e:=getElem?_mirror_all (i:=i) hj k;unfold Æ5;by_cases h1:i<=k/\k < j
 ·rw[if_pos h1] at e ⊢;exact v50 e
 ·rw[if_neg h1] at e ⊢;exact v50 e
theorem g42(hs:k < p.size)(hd:d<=k)(i:Nat) :
  kk O key (bubble p k d) i=if i=k - d then kk O key p k else if k - d < i/\i<=k then kk O key p (i - 1) else kk O key p i:=by
 have e:=getElem?_bubble hs d hd i;by_cases h1:i=k - d
 ·rw[if_pos h1] at e ⊢;exact v50 e
 ·rw[if_neg h1] at e ⊢;by_cases h2:k - d < i/\i<=k
  ·rw[if_pos h2] at e ⊢;exact v50 e
  ·rw[if_neg h2] at e ⊢;exact v50 e
theorem Up.more(h:Up O key p n)(h1:1<=n)(hl:O.kle (kk O key p (n - 1)) (kk O key p n)):Up O key p (n + 1):=by
 intro i j hij hj;by_cases e:j=n
 ·subst e;by_cases e2:i=j
  ·subst e2;exact Å5 _
  ·exact Ö0 (h i (j - 1) ∅ ∅) hl
 ·exact h i j hij ∅
theorem Dn.more(h:Dn O key p n)(h1:1<=n)(hl:O.kle (kk O key p n) (kk O key p (n - 1))):Dn O key p (n + 1):=by
 intro i j hij hj;by_cases e:j=n
 ·subst e;by_cases e2:i=j
  ·subst e2;exact Å5 _
  ·exact Ö0 hl (h i (j - 1) ∅ ∅)
 ·exact h i j hij ∅
theorem q01:∀ (f n:Nat),1<=n->Up O key p n ->
  n<=run (l60 O key) (Æ6 p f n)/\run (l60 O key) (Æ6 p f n)<=n + f/\Up O key p (run (l60 O key) (Æ6 p f n)) /\
   (run (l60 O key) (Æ6 p f n) < n + f->O.klt (kk O key p (run (l60 O key) (Æ6 p f n))) (kk O key p (run (l60 O key) (Æ6 p f n) - 1)))
 |0,n,h1,hu=>⟨Ì _,Ì _,hu,λh=>absurd h (ÿ _)⟩
 |f + 1,n,h1,hu=>by
  show n<=run _ (if O.blt (kk O key p n) (kk O key p (n - 1))=true then Ð2 n else Æ6 p f (n + 1))/\run _ (if O.blt (kk O key p n) (kk O key p (n - 1))=true then Ð2 n else Æ6 p f (n + 1))<=n + (f + 1) /\
   Up O key p (run _ (if O.blt (kk O key p n) (kk O key p (n - 1))=true then Ð2 n else Æ6 p f (n + 1))) /\
   (run _ (if O.blt (kk O key p n) (kk O key p (n - 1))=true then Ð2 n else Æ6 p f (n + 1)) < n + (f + 1) ->
    O.klt (kk O key p (run _ (if O.blt (kk O key p n) (kk O key p (n - 1))=true then Ð2 n else Æ6 p f (n + 1)))) (kk O key p (run _ (if O.blt (kk O key p n) (kk O key p (n - 1))=true then Ð2 n else Æ6 p f (n + 1)) - 1)))
  cases hb:O.blt (kk O key p n) (kk O key p (n - 1)) with
  |true =>
   simp only[if_true];exact⟨Ì _,by show n<=n + (f + 1);omega,hu,λ_=>hb⟩
  |false =>
   simp only[È7,if_false];have ih:=q01 f (n + 1) ∅ (hu.more h1 hb)
   refine⟨by omega,by omega,ih.2.2.1,λh=>ih.2.2.2 ∅⟩
theorem rev_eq(hj:j<=p.size)(he:∀ k,i<=k->k < j->kk O key p k=kk O key p (j - 1))(k:Nat):kk O key (Æ5 p i j) k=kk O key p k:=by
 rw[p91 hj];split
 ·rw[he _ ∅ ∅,he k ∅ ∅]
 ·rfl
theorem J90(p:Array Nat)(i j:Nat):(Æ5 p i j).Perm p:=mirror_perm _ _ _ _
theorem K00(p:Array Nat)(i j:Nat):(Æ5 p i j).size=p.size:=mirror_size _ _ _ _
structure DnR(O:KeyOrd)(key:Nat->O.α)(p0 p:Array Nat)(n q:Nat):Prop where
 perm:p.Perm p0
 size:p.size=p0.size
 pos:q + 1<=n
 dn:Dn O key p n
 eq:∀ k,n - (q + 1)<=k->k < n->kk O key p k=kk O key p (n - 1)
theorem DnR.rev(h:DnR O key p0 p n q)(hn:n<=p0.size):DnR O key p0 (Æ5 p (n - (q + 1)) n) n q:=by
 have hz:=h.size;have e:=rev_eq (O:=O) (key:=key) (i:=n - (q + 1)) (j:=n) (p:=p) ∅ h.eq
 exact⟨(J90 _ _ _).trans h.perm,(K00 _ _ _).trans hz,h.pos,λi j hij hj=>by rw[e,e];exact h.dn i j hij hj,λk h1 h2=>by rw[e,e];exact h.eq k h1 h2⟩
theorem X20:∀ (f:Nat) (p:Array Nat) (n q:Nat),DnR O key p0 p n q->n + f<=p0.size ->
  n<=(run (l60 O key) (Â2 f p n q)).2.1/\(run (l60 O key) (Â2 f p n q)).2.1<=n + f /\
   DnR O key p0 (run (l60 O key) (Â2 f p n q)).1 (run (l60 O key) (Â2 f p n q)).2.1 (run (l60 O key) (Â2 f p n q)).2.2
 |0,p,n,q,h,_=>⟨Ì _,Ì _,h⟩
 |f + 1,p,n,q,h,hn=>by
  have hp:=h.pos;have hz:=h.size;have unf:run (l60 O key) (Â2 (f + 1) p n q)=run (l60 O key) (if O.blt (kk O key p n) (kk O key p (n - 1))=true then(if q > 0 then Â2 f (Æ5 p (n - (q + 1)) n) (n + 1) 0 else Â2 f p (n + 1) 0)
   else .ask (p.getD (n - 1) 0) (p.getD n 0) λd=>if d=true then .ret (p,n,q) else Â2 f p (n + 1) (q + 1)):=rfl
  rw[unf];cases hb:O.blt (kk O key p n) (kk O key p (n - 1)) with
  |true =>
   simp only[if_true];have go:∀ p',DnR O key p0 p' n q->(∀ k,kk O key p' k=kk O key p k)->n<=(run (l60 O key) (Â2 f p' (n + 1) 0)).2.1/\(run (l60 O key) (Â2 f p' (n + 1) 0)).2.1<=n + (f + 1) /\
     DnR O key p0 (run (l60 O key) (Â2 f p' (n + 1) 0)).1 (run (l60 O key) (Â2 f p' (n + 1) 0)).2.1 (run (l60 O key) (Â2 f p' (n + 1) 0)).2.2:=λp' h' e=>by
    have ih:=X20 f p' (n + 1) 0 ⟨h'.perm,h'.size,by omega,h'.dn.more ∅ (by rw[e,e];exact Î0 hb),λk h1 h2=>by
     have:k=n:=by omega
     subst this;rfl⟩ ∅
    exact⟨by omega,by omega,ih.2.2⟩
   split
   ·exact go _ (h.rev ∅) (rev_eq ∅ h.eq)
   ·exact go _ h λ_=>rfl
  |false =>
   simp only[È7,if_false];have unf2:run (l60 O key) (KasT.ask (p.getD (n - 1) 0) (p.getD n 0) λd=>if d=true then .ret (p,n,q) else Â2 f p (n + 1) (q + 1)) =
    run (l60 O key) (if O.blt (kk O key p (n - 1)) (kk O key p n)=true then .ret (p,n,q) else Â2 f p (n + 1) (q + 1)):=rfl
   rw[unf2];cases hc:O.blt (kk O key p (n - 1)) (kk O key p n) with
   |true =>
    simp only[if_true];exact⟨Ì _,by show n<=n + (f + 1);omega,h⟩
   |false =>
    simp only[È7,if_false];have e:kk O key p n=kk O key p (n - 1):=O.total _ _ hb hc;have ih:=X20 f p (n + 1) (q + 1) ⟨h.perm,h.size,by omega,h.dn.more ∅ (by rw[e];exact Å5 _),λk h1 h2=>by
     show _=kk O key p n;by_cases hk:k=n
     ·rw[hk]
     ·rw[e];exact h.eq k ∅ ∅⟩ ∅
    exact⟨by omega,by omega,ih.2.2⟩
structure w12(O:KeyOrd)(key:Nat->O.α)(p0:Array Nat)(nrem:Nat)(r:Nat × Array Nat):Prop where
 perm:r.2.Perm p0
 size:r.2.size=p0.size
 lo:1<=r.1
 hi:r.1<=nrem
 up:Up O key r.2 r.1
theorem b71(hp:p.Perm p0)(hz:p.size=p0.size)(hd:Dn O key p n)(h1:1<=n)(hn:n<=nrem)(hr:nrem<=p0.size):w12 O key p0 nrem (run (l60 O key) (kas_tail3 n nrem p)):=by
 unfold kas_tail3;rw[run_bind];have hu:Up O key (Æ5 p 0 n) n:=λi j hij hj=>by
  rw[p91 ∅,p91 ∅,if_pos ∅,if_pos ∅]
  exact hd _ _ ∅ ∅
 have a:=q01 (O:=O) (key:=key) (p:=Æ5 p 0 n) (nrem - n) n h1 hu;exact⟨(J90 _ _ _).trans hp,(K00 _ _ _).trans hz,by show 1<=run _ (Æ6 _ _ _);omega,by show run _ (Æ6 _ _ _)<=_;omega,a.2.2.1⟩
theorem D30(hp:p.Perm p0)(hz:p.size=p0.size)(hd:Dn O key p (n + 1))(hn:n + 1<=nrem)(hr:nrem<=p0.size):w12 O key p0 nrem (run (l60 O key) (Î7 n nrem p)):=by
 unfold Î7;rw[run_bind];have d:=X20 (O:=O) (key:=key) (p0:=p0) (nrem - (n + 1)) p (n + 1) 0 ⟨hp,hz,by omega,hd,λk h1 h2=>by
  have:k=n:=by omega
  subst this;rfl⟩ ∅
 obtain⟨d1,d2,d3⟩:=d;have hpos:=d3.pos;split
 ·have d4:=d3.rev ∅
  exact b71 d4.perm d4.size d4.dn ∅ ∅ hr
 ·exact b71 d3.perm d3.size d3.dn ∅ ∅ hr
theorem E81(h1:1<=nrem)(hr:nrem<=p.size):w12 O key p nrem (run (l60 O key) (Û6 nrem p)):=by
 unfold Û6;rw[run_bind];have a:=q01 (O:=O) (key:=key) (p:=p) (nrem - 1) 1 (Ì _) (λi j hij hj=>by
  have:i=j:=by omega
  subst this;exact Å5 _)
 generalize run (l60 O key) (Æ6 p (nrem - 1) 1)=n at a ⊢;obtain⟨a1,a2,a3,a4⟩:=a;split
 ·exact⟨Ê1 _,rfl,a1,by show n<=nrem;omega,a3⟩
 ·rename_i hne;have hlt:n < nrem:=by
   have:n≠nrem:=by simpa using hne
   omega
  have hl:=a4 ∅
  split
  ·rename_i h2;have unf:run (l60 O key) (KasT.ask (p.getD 0 0) (p.getD (n - 1) 0) λc=>if c=true then .ret (n,p) else Î7 n nrem (Æ5 p 0 n)) =
    run (l60 O key) (if O.blt (kk O key p 0) (kk O key p (n - 1))=true then .ret (n,p) else Î7 n nrem (Æ5 p 0 n)):=rfl
   rw[unf];cases hb:O.blt (kk O key p 0) (kk O key p (n - 1)) with
   |true =>
    simp only[if_true];exact⟨Ê1 _,rfl,a1,by show n<=nrem;omega,a3⟩
   |false =>
    simp only[È7,if_false];have e0:kk O key p 0=kk O key p (n - 1):=O.total _ _ hb (a3 0 (n - 1) ∅ ∅)
    have e:∀ k,0<=k->k < n->kk O key p k=kk O key p (n - 1):=λk _ hk=>by
     refine KeyOrd.kle_antisymm (a3 k (n - 1) ∅ ∅) ?_
     rw[← e0];exact a3 0 k ∅ hk
    have er:=rev_eq (O:=O) (key:=key) (i:=0) (j:=n) (p:=p) ∅ e
    refine D30 (J90 _ _ _) (K00 _ _ _) ?_ ∅ hr
    have dn:Dn O key (Æ5 p 0 n) n:=λi j hij hj=>by
     rw[er,er,e i ∅ ∅,e j ∅ ∅];exact Å5 _
    refine dn.more a1 ?_;rw[er,er];exact Î0 hl
  ·have h2:n=1:=by omega
   subst h2;refine D30 (Ê1 _) rfl ?_ ∅ hr
   have dn:Dn O key p 1:=λi j hij hj=>by
    have:i=j:=by omega
    subst this;exact Å5 _
   exact dn.more (Ì _) (Î0 hl)
theorem K10(hu:Up O key p k):∀ (f l r:Nat),l<=r->r<=k->r - l<=f->(∀ i,i < l->O.kle (kk O key p i) (kk O key p k))->(∀ i,r<=i->i < k->O.klt (kk O key p k) (kk O key p i)) ->
  run (l60 O key) (Ã2 p k f l r)<=k/\(∀ i,i < run (l60 O key) (Ã2 p k f l r)->O.kle (kk O key p i) (kk O key p k))/\(∀ i,run (l60 O key) (Ã2 p k f l r)<=i->i < k->O.klt (kk O key p k) (kk O key p i))
 |0,l,r,h1,h2,h3,h4,h5=>by
  have:l=r:=by omega
  subst this;exact⟨h2,h4,h5⟩
 |f + 1,l,r,h1,h2,h3,h4,h5=>by
  have unf:Ã2 p k (f + 1) l r=(if l ≥ r then .ret l else .ask (p.getD k 0) (p.getD ((l + r) / 2) 0) λc=>if c=true then Ã2 p k f l ((l + r) / 2) else Ã2 p k f ((l + r) / 2 + 1) r):=rfl;rw[unf];by_cases hlr:l ≥ r
  ·rw[if_pos hlr];have:l=r:=by omega
   subst this;exact⟨h2,h4,h5⟩
  ·rw[if_neg hlr];have unf2:run (l60 O key) (KasT.ask (p.getD k 0) (p.getD ((l + r) / 2) 0) λc=>if c=true then Ã2 p k f l ((l + r) / 2) else Ã2 p k f ((l + r) / 2 + 1) r) =
    run (l60 O key) (if O.blt (kk O key p k) (kk O key p ((l + r) / 2))=true then Ã2 p k f l ((l + r) / 2) else Ã2 p k f ((l + r) / 2 + 1) r):=rfl
   rw[unf2];cases hb:O.blt (kk O key p k) (kk O key p ((l + r) / 2)) with
   |true =>
    simp only[if_true];exact K10 hu f l ((l + r) / 2) ∅ ∅ ∅ h4 λi hi hk=>KeyOrd.klt_of_klt_of_kle hb (hu _ i hi hk)
   |false =>
    simp only[È7,if_false];exact K10 hu f ((l + r) / 2 + 1) r ∅ ∅ ∅ (λi hi=>Ö0 (hu i ((l + r) / 2) ∅ ∅) hb) h5
theorem M61:∀ (f:Nat) (p:Array Nat) (k:Nat),p.Perm p0->p.size=p0.size->Up O key p k->k + f<=p0.size ->
  (run (l60 O key) (kas_bin f p k)).Perm p0/\Up O key (run (l60 O key) (kas_bin f p k)) (k + f)
 |0,p,k,hp,_,hu,_=>⟨hp,hu⟩
 |f + 1,p,k,hp,hz,hu,hk=>by
  have unf:kas_bin (f + 1) p k=(Ã2 p k k 0 k).bind λl=>kas_bin f (bubble p k (k - l)) (k + 1):=rfl;rw[unf,run_bind];have pl:=K10 (O:=O) (key:=key) hu k 0 k ∅ ∅ ∅ (λi hi=>absurd hi (Ú4 _)) (λi h1 h2=>absurd h2 ∅)
  generalize run (l60 O key) (Ã2 p k k 0 k)=l at pl ⊢;obtain⟨l1,l2,l3⟩:=pl;have hb:=g42 (O:=O) (key:=key) (p:=p) (k:=k) (d:=k - l) ∅ ∅
  have hu':Up O key (bubble p k (k - l)) (k + 1):=λi j hij hj=>by
   rw[hb,hb];have el:k - (k - l)=l:=by omega
   rw[el];by_cases ei:i=l
   ·rw[if_pos ei];by_cases ej:j=l
    ·rw[if_pos ej];exact Å5 _
    ·rw[if_neg ej,if_pos ∅]
     exact Î0 (l3 _ ∅ ∅)
   ·rw[if_neg ei];by_cases hi:l < i/\i<=k
    ·rw[if_pos hi,if_neg ∅,if_pos ∅]
     exact hu _ _ ∅ ∅
    ·rw[if_neg hi];by_cases ej:j=l
     ·rw[if_pos ej];exact l2 _ ∅
     ·rw[if_neg ej];by_cases hj':l < j/\j<=k
      ·rw[if_pos hj'];exact hu _ _ ∅ ∅
      ·rw[if_neg hj'];exact hu _ _ hij ∅
  have ih:=M61 (p0:=p0) f (bubble p k (k - l)) (k + 1) ((bubble_perm _ _ _).trans hp) ((bubble_size _ _ _).trans hz) hu' ∅
  exact⟨ih.1,by have:=ih.2;rwa [show k + 1 + f=k + (f + 1) by omega] at this⟩
theorem S41(h1:1<=n):(run (l60 O key) (Ï4 n)).Perm (Û n).toArray/\Up O key (run (l60 O key) (Ï4 n)) n:=by
 unfold Ï4;rw[run_bind];have c:=E81 (O:=O) (key:=key) (p:=(Û n).toArray) h1 (by simp)
 generalize run (l60 O key) (Û6 n (Û n).toArray)=r at c ⊢;obtain⟨c1,c2,c3,c4,c5⟩:=c;split
 ·have b:=M61 (O:=O) (key:=key) (n - max r.1 1) r.2 (max r.1 1) c1 c2 (by rw[Nat.max_eq_left c3];exact c5) (by simp;omega)
  exact⟨b.1,by have:=b.2;rwa [show max r.1 1 + (n - max r.1 1)=n by omega] at this⟩
 ·have:r.1=n:=by omega
  rw[this] at c5;exact⟨c1,c5⟩
end
def o40{α:Type}(n:Nat):KasT α->Prop
 |.ret _=>True|.ask i j k=>(i < n/\j < n)/\∀ b,o40 n (k b)
def R90{α:Type}(G:α->Prop):KasT α->Prop
 |.ret a=>G a|.ask _ _ k=>∀ b,R90 G (k b)
theorem o40.bind{α β:Type}{n:Nat}{f:α->KasT β}{G:α->Prop}(hf:∀ a,G a->o40 n (f a)):∀ {t:KasT α},o40 n t->R90 G t->o40 n (t.bind f)
 |.ret a,_,g=>hf a g|.ask _ _ _,h,g=>⟨h.1,λb=>o40.bind hf (h.2 b) (g b)⟩
theorem R90.bind{α β:Type}{f:α->KasT β}{G:α->Prop}{G':β->Prop}(hf:∀ a,G a->R90 G' (f a)):∀ {t:KasT α},R90 G t->R90 G' (t.bind f)
 |.ret a,g=>hf a g|.ask _ _ _,g=>λb=>R90.bind hf (g b)
def Low(n:Nat)(p:Array Nat):Prop:=∀ i,p.getD i 0 < n
theorem q11(h1:1<=n)(hp:p.Perm q)(hq:∀ x∈q.toList,x < n):Low n p:=λi=>by
 by_cases hi:i < p.size
 ·have e:p.getD i 0=p[i]:=by simp[getD,hi]
  rw[e];exact hq _ (hp.toList.mem_iff.mp (by simp))
 ·have e:p.getD i 0=0:=by simp[getD,hi]
  rw[e];exact h1
structure Good(n:Nat)(q p:Array Nat):Prop where
 low:Low n p
 perm:p.Perm q
theorem Good.rev(h1:1<=n)(hq:∀ x∈q.toList,x < n)(g:Good n q p)(i j:Nat):Good n q (Æ5 p i j) :=
 have e:=(mirror_perm p i j ((j - i) / 2)).trans g.perm
 ⟨q11 h1 e hq,e⟩
theorem Good.bub(h1:1<=n)(hq:∀ x∈q.toList,x < n)(g:Good n q p)(i j:Nat):Good n q (bubble p i j) :=
 have e:=(bubble_perm p i j).trans g.perm
 ⟨q11 h1 e hq,e⟩
section
variable {n:Nat}{q:Array Nat}
theorem K20(g:Low n p):∀ (f k:Nat),o40 n (Æ6 p f k)
 |0,_=>trivial|f + 1,k=>⟨⟨g _,g _⟩,λb=>by cases b with | true=>exact trivial | false=>exact K20 g f (k + 1)⟩
theorem v60:∀ (f k:Nat),R90 (λ_=>True) (Æ6 p f k)
 |0,_=>trivial|f + 1,k=>λb=>by cases b with | true=>exact trivial | false=>exact v60 f (k + 1)
theorem D40(h1:1<=n)(hq:∀ x∈q.toList,x < n):∀ (f:Nat) (p:Array Nat) (k c:Nat),Good n q p->o40 n (Â2 f p k c)/\R90 (λr=>Good n q r.1) (Â2 f p k c)
 |0,p,k,c,g=>⟨trivial,g⟩
 |f + 1,p,k,c,g=>by
  have a:=λp' k' c' g'=>(D40 h1 hq f p' k' c' g').1;have r:=λp' k' c' g'=>(D40 h1 hq f p' k' c' g').2;refine⟨⟨⟨g.low _,g.low _⟩,λb=>?_⟩,λb=>?_⟩
  ·cases b with
   |true =>
    show o40 n (if c > 0 then Â2 f (Æ5 p (k - (c + 1)) k) (k + 1) 0 else Â2 f p (k + 1) 0);split
    ·exact a _ _ _ (g.rev h1 hq _ _)
    ·exact a _ _ _ g
   |false=>exact⟨⟨g.low _,g.low _⟩,λd=>by cases d with | true=>exact trivial | false=>exact a _ _ _ g⟩
  ·cases b with
   |true =>
    show R90 _ (if c > 0 then Â2 f (Æ5 p (k - (c + 1)) k) (k + 1) 0 else Â2 f p (k + 1) 0);split
    ·exact r _ _ _ (g.rev h1 hq _ _)
    ·exact r _ _ _ g
   |false=>exact λd=>by cases d with | true=>exact g | false=>exact r _ _ _ g
theorem q50(h1:1<=n)(hq:∀ x∈q.toList,x < n)(g:Good n q p)(k m:Nat):o40 n (kas_tail3 k m p)/\R90 (λr=>Good n q r.2) (kas_tail3 k m p) :=
 have g':=g.rev h1 hq 0 k
 And.intro (o40.bind (f:=λm'=>Ð2 (m',Æ5 p 0 k)) (λ_ _=>È8) (K20 g'.low (m - k) k) (v60 (m - k) k)) (R90.bind (f:=λm'=>Ð2 (m',Æ5 p 0 k)) (G':=λr=>Good n q r.2) (λ_ _=>g') (v60 (m - k) k))
theorem h80(h1:1<=n)(hq:∀ x∈q.toList,x < n)(g:Good n q p)(k m:Nat):o40 n (Î7 k m p)/\R90 (λr=>Good n q r.2) (Î7 k m p):=by
 have d:=D40 h1 hq (m - (k + 1)) p (k + 1) 0 g;refine⟨o40.bind (λr gr=>?_) d.1 d.2,R90.bind (λr gr=>?_) d.2⟩
 ·split
  ·exact(q50 h1 hq (gr.rev h1 hq _ _) _ _).1
  ·exact(q50 h1 hq gr _ _).1
 ·split
  ·exact(q50 h1 hq (gr.rev h1 hq _ _) _ _).2
  ·exact(q50 h1 hq gr _ _).2
theorem i91(h1:1<=n)(hq:∀ x∈q.toList,x < n)(g:Good n q p)(m:Nat):o40 n (Û6 m p)/\R90 (λr=>Good n q r.2) (Û6 m p):=by
 refine⟨o40.bind (λk _=>?_) (K20 g.low _ _) (v60 _ _),R90.bind (λk _=>?_) (v60 _ _)⟩
 ·split
  ·exact trivial
  ·split
   ·exact⟨⟨g.low _,g.low _⟩,λb=>by cases b with | true=>exact trivial | false=>exact(h80 h1 hq (g.rev h1 hq _ _) _ _).1⟩
   ·exact(h80 h1 hq g _ _).1
 ·split
  ·exact g
  ·split
   ·exact λb=>by cases b with | true=>exact g | false=>exact(h80 h1 hq (g.rev h1 hq _ _) _ _).2
   ·exact(h80 h1 hq g _ _).2
theorem i60(g:Low n p)(k:Nat):∀ (f l r:Nat),o40 n (Ã2 p k f l r)/\R90 (λ_=>True) (Ã2 p k f l r)
 |0,_,_=>⟨trivial,trivial⟩
 |f + 1,l,r=>by
  have e:Ã2 p k (f + 1) l r=(if l ≥ r then .ret l else .ask (p.getD k 0) (p.getD ((l + r) / 2) 0) λc=>if c=true then Ã2 p k f l ((l + r) / 2) else Ã2 p k f ((l + r) / 2 + 1) r):=rfl;rw[e];split
  ·exact⟨trivial,trivial⟩
  ·refine⟨⟨⟨g _,g _⟩,λb=>?_⟩,λb=>?_⟩
   ·cases b with
    |true=>exact(i60 g k f _ _).1|false=>exact(i60 g k f _ _).1
   ·cases b with
    |true=>exact(i60 g k f _ _).2|false=>exact(i60 g k f _ _).2
theorem b81(h1:1<=n)(hq:∀ x∈q.toList,x < n):∀ (f:Nat) (p:Array Nat) (k:Nat),Good n q p->o40 n (kas_bin f p k)
 |0,_,_,_=>trivial|f + 1,p,k,g=>o40.bind (λl _=>b81 h1 hq f _ _ (g.bub h1 hq _ _)) (i60 g.low k k 0 k).1 (i60 g.low k k 0 k).2
theorem q21(h1:1<=n):o40 n (Ï4 n):=by
 have hq:∀ x∈((Û n).toArray).toList,x < n:=λx hx=>by simpa using hx
 have g:Good n (Û n).toArray (Û n).toArray:=⟨q11 h1 (Ê1 _) hq,Ê1 _⟩;have c:=i91 h1 hq g n;refine o40.bind (λr gr=>?_) c.1 c.2;split
 ·exact b81 h1 hq _ _ _ gr
 ·exact trivial
end
theorem S00{α:Type}{n:Nat}{cmp:Nat->Nat->Bool}{ask:Nat->Nat->(Bool->Æ->Prop)->Æ->Prop}{s:Æ}(h:∀ i j (C:Bool->Æ->Prop),i < n->j < n->C (cmp i j) s->ask i j C s){Q:α->Æ->Prop} :
  ∀ (t:KasT α),o40 n t->Q (run cmp t) s->t.kasWp ask Q s
 |.ret _,_,q=>q|.ask i j k,a,q=>h i j _ a.1.1 a.1.2 (S00 h (k (cmp i j)) (a.2 _) q)
def k00:List Int->List Int->Bool
 |[],[]=>false|[],_::_=>true|_::_,[]=>false|x::r,y::q=>if x=y then k00 r q else decide (x < y)
theorem s90:∀ a,k00 a a=false
 |[]=>rfl|x::r=>by show(if x=x then k00 r r else _)=_;rw[if_pos rfl];exact s90 r
theorem q60:∀ a b c,k00 a b=true->k00 b c=true->k00 a c=true
 |[],[],_,h,_=>by cases h
 |[],_::_,[],_,h=>by cases h
 |[],_::_,_::_,_,_=>rfl|_::_,[],_,h,_=>by cases h
 |_::_,_::_,[],_,h=>by cases h
 |x::a,y::b,z::c,h1,h2=>by
  have h1:(if x=y then k00 a b else decide (x < y))=true:=h1;have h2:(if y=z then k00 b c else decide (y < z))=true:=h2;show(if x=z then k00 a c else decide (x < z))=true;by_cases e1:x=y
  ·rw[if_pos e1] at h1;by_cases e2:y=z
   ·rw[if_pos e2] at h2;rw[if_pos (e1.trans e2)];exact q60 a b c h1 h2
   ·rw[if_neg e2] at h2;rw[if_neg ∅]
    rw[e1];exact h2
  ·rw[if_neg e1] at h1;have l1:x < y:=by simpa using h1
   by_cases e2:y=z
   ·rw[if_neg ∅];exact decide_eq_true ∅
   ·rw[if_neg e2] at h2;have l2:y < z:=by simpa using h2
    rw[if_neg ∅];exact decide_eq_true ∅
theorem q70:∀ a b,k00 a b=false->k00 b a=false->a=b
 |[],[],_,_=>rfl|[],_::_,h,_=>by cases h
 |_::_,[],_,h=>by cases h
 |x::a,y::b,h1,h2=>by
  have h1:(if x=y then k00 a b else decide (x < y))=false:=h1;have h2:(if y=x then k00 b a else decide (y < x))=false:=h2;by_cases e:x=y
  ·subst e;rw[if_pos rfl] at h1 h2;rw[q70 a b h1 h2]
  ·rw[if_neg e] at h1;rw[if_neg (À6 e)] at h2;have l1:¬ x < y:=by simpa using h1
   have l2:¬ y < x:=by simpa using h2
   omega
theorem b91(a b c:List Int)(h:k00 a c=true):k00 a b=true∨k00 b c=true:=by
 cases hab:k00 a b with
 |true=>exact .inl rfl
 |false =>
  right;cases hba:k00 b a with
  |true=>exact q60 b a c hba h|false=>rw[← q70 a b hab hba];exact h
def S51:KeyOrd:=⟨List Int,k00,s90,q60,b91,q70⟩
section
variable {P:ã}{w:ü}{A:À3}{E:Ä->Æ->Prop}{s:Æ}
def sortedBy(ks:List (List Int))(p:List Nat):Prop:=p.Perm (Û ks.length)/\(p.map λi=>ks.getD i []).Pairwise λx y=>k00 y x=false
theorem range_getD(d:α):∀ (l:List α),(Û l.length).map (λi=>l.getD i d)=l:=λl=>by
 refine List.ext_getElem (by simp) λi h1 h2=>?_
 simp at h1;simp[h1]
def w22(P:ã)(w:ü)(A:À3)(s:Æ)(vs:List Ä)(Pr:List Nat->Prop)(kd:Ì8):Prop:=∃ p:List Nat,Pr p/\∀ (E:Ä->Æ->Prop) (Q:Unit × Á9->Æ->Prop),(∀ st',failedOf st'=none->arrOf st'=(p.toArray).map (ð (vs.toArray.zip vs.toArray))->Q ((),st') s)->Ñ (Ü P w) A (sortRuns'.run (É9 kd (vs.toArray.zip vs.toArray) #[] 7 none)) Q E s
structure g52(P:Program)(w:World)(A:Around)(s:Shared)(vs:List Value)(Pr:List Nat->Prop)(kd:SortKind):Prop where
 len:vs.length<=1000
 few:vs.length < 2->Pr (range vs.length)
 all:∀ p,Pr p->p.length=vs.length
 kind:2<=vs.length->∀ (E:Value->Shared->Prop) (Q:SortKind->Shared->Prop),Q kd s->wpAny (model P w) A (keyKind' vs.toArray) Q E s
 run:2<=vs.length->w22 P w A s vs Pr kd
theorem g62(hl:n=ks.length)(h2:n < 2):sortedBy ks (Û n):=by
 subst hl;refine⟨.refl _,?_⟩;rw[range_getD]
 match ks,h2 with
 |[],_=>exact .nil|[_],_=>simp|_::_::_,q=>simp at q;omega
theorem S61{vs:List Ä}{ks:List (List Int)}{kd:Ì8}(hlen:vs.length=ks.length)(h64:vs.length < 64)(ask:∀ i j,i < vs.length->j < vs.length->∀ (E:Ä->Æ->Prop) (C:Bool->Æ->Prop),C (k00 (ks.getD i []) (ks.getD j [])) s->Ñ (Ü P w) A (keyLt' kd (vs.getD i å) (vs.getD j å)) C E s)(h2':2<=vs.length):w22 P w A s vs (sortedBy ks) kd:=by
 have so:=S41 (O:=S51) (key:=λi=>ks.getD i []) (n:=vs.length) ∅
 refine⟨(run (l60 S51 λi=>ks.getD i []) (Ï4 vs.length)).toList,?_,λE Q q=>?_⟩
 ·generalize run (l60 S51 λi=>ks.getD i []) (Ï4 vs.length)=p at so;refine⟨?_,?_⟩
  ·have:=so.1.toList;rw[hlen] at this;simpa using this
  ·rw[List.pairwise_iff_getElem];intro i j hi hj hij;have hsz:p.size=vs.length:=by have:=so.1.size_eq;simpa using this
   have hi':i < p.size:=by simpa using hi
   have hj':j < p.size:=by simpa using hj
   have u:=so.2 i j (Ç5 hij) ∅
   have g:∀ k,k < p.size->kk S51 (λi=>ks.getD i []) p k=ks.getD (p.toList.getD k 0) []:=λk hk=>by show ks.getD (p.getD k 0) []=_;rw[Ì1,Í (l:=p.toList),þ]
   have u':k00 (ks.getD (p.toList.getD j 0) []) (ks.getD (p.toList.getD i 0) [])=false:=by
    have:=u;unfold KeyOrd.kle at this;rw[g i hi',g j hj'] at this;exact this
   simpa [hi',hj'] using u'
 ·refine Ä4 (kat_run (s:=s) (Q:=λst' s'=>s'=s/\failedOf st'=none/\arrOf st'=(run (l60 S51 λi=>ks.getD i []) (Ï4 vs.length)).map (ð (vs.toArray.zip vs.toArray)))
   (G:=λp s'=>s'=s/\p=run (l60 S51 λi=>ks.getD i []) (Ï4 vs.length)) rfl h2' h64 (λp st' s' a1 a2 a3 a4=>⟨a4.1,a3,by rw[a2,a4.2]⟩)
   (S00 (n:=vs.length) (cmp:=l60 S51 λi=>ks.getD i []) (λi j C hi hj hC=>ask i j hi hj _ C hC) (Ï4 vs.length) (q21 ∅) ⟨rfl,rfl⟩)) ?_ λ_ _ e=>e
  rintro ⟨⟨⟩,st'⟩ s' ⟨hs',hf,har⟩;subst hs';exact q st' hf har
def q31(h h':õ):Prop:=∀ b o,h.get? b=some o->o.cls=.type "tuple"->h'.get? b=some o
theorem E91{a:È}{vs:List Ä}{Pr:List Nat->Prop}{kd:Ì8}{n:Nat}{R:PySem.Fin->Æ->Prop}(ho:s.heap.get? a=some (Ã0 "list" vs.toArray n))(hk:∀ h',q31 s.heap h'->g52 P w A { s with heap:=h' } vs Pr kd)
  (h:∀ (p:List Nat) (h':õ) (c:Nat),Pr p->(∀ b o,b≠a->s.heap.get? b=some o->h'.get? b=some o)->h'.get? a=some (Ã0 "list" (p.map λi=>vs.getD i å).toArray c)->R (.done (.ret .none)) { s with heap:=h' }) :
  Ñ (Ü P w) A (Å6.«list.sort» ⟨[.ref a],[]⟩) R E s:=by
 have ha:a < s.heap.objs.size:=â ho;have h64:=(hk s.heap λ_ _ e _=>e).len;have s1:=É7 s.heap a (À9 λ_=>(#[]:Array Ä));obtain⟨e1,ho1⟩:∃ e1,(s.heap.update a (À9 λ_=>(#[]:Array Ä))).get? a=some (Ã0 "list" #[] e1):=⟨_,Ü4 ho λ_=>#[]⟩;have kp:∀ b o,b≠a->s.heap.get? b=some o->(((s.heap.update a (À9 λ_=>(#[]:Array Ä))).push (Ã0 "tuple" vs.toArray 0)).push (Ã0 "list" #[] 0)).get? b=some o:=λb o hb e=>Ã _ (Ã _ ((s1.2 b hb).trans e));have ho6:(((s.heap.update a (À9 λ_=>(#[]:Array Ä))).push (Ã0 "tuple" vs.toArray 0)).push (Ã0 "list" #[] 0)).get? a=some (Ã0 "list" #[] e1):=Ã _ (Ã _ ho1);have hk6:=hk (((s.heap.update a (À9 λ_=>(#[]:Array Ä))).push (Ã0 "tuple" vs.toArray 0)).push (Ã0 "list" #[] 0)) (λb o e hc=>kp b o (λq=>by subst q;rw[ho] at e;cases e;have hc':Â9 "list"=Â9 "tuple":=hc;injection hc' with hc';exact absurd hc' (-0)) e)
 rw[list_sort_plain];refine Á (Î6 ho rfl (Á (Ø0 ho rfl ?_ (by rw[Ô,Á4];omega) (Å4 _))))
 refine Á (seqEpoch_at ho1 rfl (Á (wpAny_newTuple ?_ (by show vs.length<=_;rw[Á4];omega))));refine Á (wpAny_newList (Ç0 ?_) (Å4 _))
 show Ñ (Ü P w) A _ R E { s with heap:=((s.heap.update a (À9 λ_=>(#[]:Array Ä))).push (Ã0 "tuple" vs.toArray 0)).push (Ã0 "list" #[] 0) };generalize hH:((s.heap.update a (À9 λ_=>(#[]:Array Ä))).push (Ã0 "tuple" vs.toArray 0)).push (Ã0 "list" #[] 0)=h6 at kp ho6 hk6 ⊢;have fin:∀ (p:List Nat) (out:Array Ä),out=(p.map λi=>vs.getD i å).toArray->Pr p->Ñ (Ü P w) A (do
   let touched:=(← seqEpoch a) != e1
   Å6.List.listUpdate (.ref a) λ_=>out
   if touched then rule "list.sort.modified";raiseError "ValueError" "list modified during sort"
   ret .none) R E { s with heap:=h6 }:=λp out eo hp=>by
  subst eo;have hsz:(p.map λi=>vs.getD i å).toArray.size=vs.length:=by rw[Ô,Ç,(hk s.heap λ_ _ e _=>e).all p hp]
  have s2:=É7 h6 a (À9 λ_=>(p.map λi=>vs.getD i å).toArray);refine Á (seqEpoch_at ho6 rfl (Á (Ø0 ho6 rfl ?_ (Å4 _) (Ù (Ö4 hsz) (by rw[Á4];omega)))))
  simp only[bne_self_eq_false,È7,if_false];exact Ê (h p _ _ hp (λb o hb e=>(s2.2 b hb).trans (kp b o hb e)) (Ü4 ho6 λ_=>(p.map λi=>vs.getD i å).toArray))
 dsimp only;by_cases h2:vs.toArray.size < 2
 ·rw[if_pos h2,if_pos h2];refine Á (Ê ?_);rw[StateT.run_pure];refine Á (Ê ?_);dsimp only;refine fin (Û vs.length) _ ?_ ((hk s.heap λ_ _ e _=>e).few (by simpa using h2))
  rw[range_getD];apply Array.toList_inj.mp;rw[Array.toList_map];show List.map _ (vs.toArray.zip vs.toArray).toList=vs;rw[ksk_zip];exact List.map_snd_zip (Ì _)
 ·rw[if_neg h2,if_neg h2];have h2':2<=vs.length:=by simpa using h2
  refine Á (hk6.kind h2' _ _ ?_);obtain⟨p,hp,hr⟩:=hk6.run h2';refine Á (hr _ _ λst' hf har=>?_);dsimp only;rw[hf];exact fin p _ (kat_snds rfl har) hp
end
end MySort
namespace TS
open PySem PySem.W PyProof.Rows
structure Tw where
 a:Array Nat
 pending:Array (Nat × Nat × Nat)
 minGallop:Nat
abbrev TM:=StateT Tw Option
section
variable (n:Nat) (cmp:Nat->Nat->Bool)
def ltT(x y:Nat):TM Bool:=if x < n/\y < n then pure (cmp x y) else λ_=>none
def q41(arr:Array Nat)(i:Nat):TM Nat:=match arr.toList[i]? with
 |some p=>pure p|none=>λ_=>none
def S71(i j:Nat):TM Bool:=do
 let a:=(← get).a
 ltT n cmp (← q41 a i) (← q41 a j)
def G02(i j:Nat):TM Unit:=modify λs=>{ s with a:=mirror s.a i j ((j - i) / 2) }
def mvL(a:Array Nat)(src dst:Nat):Array Nat:=⟨a.toList.take dst++((a.toList.drop src).take 1++((a.toList.take src).drop dst++a.toList.drop (src + 1)))⟩
theorem g72(h:src < a.size)(h2:dst<=src):mvL a src dst=bubble a src (src - dst):=by
 apply Array.ext_getElem?;intro k;rw[getElem?_bubble h (src - dst) ∅ k,show src - (src - dst)=dst by omega]
 have hl:src < a.toList.length:=h;rw[← þ,← þ,← þ,← þ];show(a.toList.take dst++((a.toList.drop src).take 1++((a.toList.take src).drop dst++a.toList.drop (src + 1))))[k]?=_;generalize a.toList=l at hl;rw[Ë2,Ë2,Ë2,Á7,Á7,Ç3,Ç3,Á7,show min dst l.length=dst by omega,show min 1 (l.length - src)=1 by omega,show min src l.length - dst=src - dst by omega,Í3,Í3,Í4,Í4,Í4,Í3]
 by_cases c1:k < dst
 ·rw[if_pos c1,if_pos c1,if_neg ∅,if_neg ∅]
 ·rw[if_neg c1];by_cases c2:k=dst
  ·rw[if_pos ∅,if_pos ∅,if_pos c2,show src + (k - dst)=src by omega]
  ·rw[if_neg ∅,if_neg c2]
   by_cases c3:k<=src
   ·rw[if_pos ∅,if_pos ∅,if_pos ∅,show dst + (k - dst - 1)=k - 1 by omega]
   ·rw[if_neg ∅,if_neg ∅,show src + 1 + (k - dst - 1 - (src - dst))=k by omega]
def S81(src dst:Nat):TM Unit:=λt=>if src < t.a.size/\dst<=src then some ((),{ t with a:=mvL t.a src dst }) else none
end
section
variable {prog:ã}{w:ü}{A:À3}{E:Ä->Æ->Prop}{s:Æ}{κ:Ì8}{it:Array Keyed}{n:Nat}{cmp:Nat->Nat->Bool}
def co(κ:Ì8)(it:Array Keyed)(t:Tw):SortSt:=É9 κ (t.a.map (ð it)) t.pending t.minGallop none
def Sim(prog:ã)(w:ü)(A:À3)(E:Ä->Æ->Prop)(s:Æ)(κ:Ì8)(it:Array Keyed){α β:Type}(rel:β->α)(m:StateT Á9 Sem α)(f:TM β):Prop :=
 ∀ (t:Tw) (b:β) (t':Tw),f t=some (b,t')->∀ Q:α->Á9->Æ->Prop,Q (rel b) (co κ it t') s->kasC (Ü prog w) A E m Q (co κ it t) s
local macro_rules | `(tactic| trivial)=>`(tactic| skip)
section
variable {α β α' β':Type}{r:β->α}{r':β'->α'}
theorem B20(b:β)(e:a=r b):Sim prog w A E s κ it r (pure a) (pure b):=λt b' t' h Q q=>by
 cases h;subst e;exact kasC_pure q
theorem m60(h:Sim prog w A E s κ it r m f)(hk:∀ b,Sim prog w A E s κ it r' (k (r b)) (g b)):Sim prog w A E s κ it r' (m >>= k) (f >>= g):=λt b t' e Q q=>by
 have e:(f t).bind (λx=>g x.1 x.2)=some (b,t'):=e;obtain⟨⟨b1,t1⟩,e1,e2⟩:=Î.mp e;exact kasC_bind (h t b1 t1 e1 _ (hk b1 t1 b t' e2 Q q))
theorem X30:Sim prog w A E s κ it (co κ it) (get:StateT Á9 Sem Á9) (get:TM Tw):=λt b t' e Q q=>by
 cases e;exact kasC_get q
theorem q80(h:∀ t,F (co κ it t)=co κ it (G t)):Sim prog w A E s κ it (λu:Unit=>u) (modify F:StateT Á9 Sem Unit) (modify G:TM Unit):=λt b t' e Q q=>by
 cases e;refine kasC_modify ?_;rw[h t];exact q
theorem F01:Sim prog w A E s κ it (λu:Unit=>u) (liftM (rule x):StateT Á9 Sem Unit) (pure ():TM Unit):=λt b t' e Q q=>by
 cases e;exact kasC_lift (Ï1 q)
theorem S91[Decidable c](h1:c->Sim prog w A E s κ it r m f)(h2:¬ c->Sim prog w A E s κ it r m' f'):Sim prog w A E s κ it r (if c then m else m') (if c then f else f'):=by
 split
 ·exact h1 (by assumption)
 ·exact h2 (by assumption)
def A60(r:β->α):ForInStep β->ForInStep α
 |.done b=>.done (r b)|.yield b=>.yield (r b)
theorem c01(h:∀ x b,Sim prog w A E s κ it (A60 r) (body x (r b)) (body' x b)):∀ (l:List Nat) (b:β),Sim prog w A E s κ it r (forIn l (r b) body) (forIn l b body')
 |[],b=>by
  rw[Ô1,Ô1];exact B20 b rfl
 |x::l,b=>by
  rw[Ê8,Ê8];refine m60 (h x b) λst=>?_;cases st with
  |done b'=>exact B20 b' rfl|yield b'=>exact c01 h l b'
end
def Ora(prog:ã)(w:ü)(A:À3)(s:Æ)(κ:Ì8)(it:Array Keyed)(n:Nat)(cmp:Nat->Nat->Bool):Prop:=∀ i j (C:Bool->Æ->Prop),i < n->j < n->C (cmp i j) s->kas_cmp prog w A κ it i j C s
theorem M71(O:Ora prog w A s κ it n cmp)(x y:Nat):Sim prog w A E s κ it (λo:Bool=>some o) (lt' (ð it x) (ð it y)) (ltT n cmp x y):=λt b t' e Q q=>by
 unfold ltT at e;split at e
 ·rename_i h;cases e;rw[lt'_eq];refine kasC_bind (kasC_get ?_);exact kasC_bind (kasC_lift (wpAny_attempt (Ä4 (O x y (λc s'=>s'=s/\c=cmp x y) h.1 h.2 ⟨rfl,rfl⟩) (λc s' hc=>by obtain⟨rfl,rfl⟩:=hc;exact kasC_pure q) λ_ _ hF=>hF.elim)))
 ·cases e
theorem K30(p:Array Nat)(i:Nat):Sim prog w A E s κ it (ð it) (elem' (p.map (ð it)) i) (q41 p i):=by
 rw[elem'_eq];unfold q41;rw[Array.getElem?_map,þ];cases p[i]? with
 |none=>exact λt b t' e=>by cases e
 |some x=>exact B20 x rfl
theorem F11(O:Ora prog w A s κ it n cmp)(i j:Nat):Sim prog w A E s κ it (λo:Bool=>some o) (ltAt' i j) (S71 n cmp i j):=by
 rw[ltAt'_eq];unfold S71;refine m60 X30 λt=>?_;exact m60 (K30 t.a i) λx=>m60 (K30 t.a j) λy=>M71 O x y
theorem T01(i j:Nat):Sim prog w A E s κ it (λu:Unit=>u) (reverseSlice' i j) (G02 i j):=by
 rw[reverseSlice'_eq];refine q80 λt=>?_;show É9 κ (mirror (t.a.map (ð it)) i j ((j - i) / 2)) t.pending t.minGallop none=É9 κ ((mirror t.a i j ((j - i) / 2)).map (ð it)) t.pending t.minGallop none;rw[show mirror (t.a.map (ð it)) i j ((j - i) / 2)=(mirror t.a i j ((j - i) / 2)).map (ð it) from kas_swaps_map (ð it) (λk=>i + k) (λk=>j - 1 - k) _ t.a]
theorem F21(k l:Nat):Sim prog w A E s κ it (λu:Unit=>u) (moveDown' k l) (S81 k l):=λt b t' e Q q=>by
 rw[moveDown'_eq];unfold S81 at e;split at e
 ·rename_i h;cases e;refine kasC_modify ?_;have e:bubble (t.a.map (ð it)) k (k - l)=(mvL t.a k l).map (ð it):=by
   rw[g72 h.1 h.2];exact kas_swaps_map (ð it) (λi=>k - i) (λi=>k - i - 1) _ t.a
  show Q () (É9 κ (bubble (t.a.map (ð it)) k (k - l)) t.pending t.minGallop none) s;rw[e];exact q
 ·cases e
def v70{β:Type}(f:Nat->β->TM (ForInStep β)):Nat->Nat->β->TM β
 |0,_,b=>pure b
 |n + 1,i,b=>f i b >>= λx=>match x with
  |.done b=>pure b|.yield b=>v70 f n (i + 1) b
theorem c11(f:Nat->β->TM (ForInStep β)):∀ (n i:Nat) (b:β),v70 f n i b=forIn (Ã8 i n 1) b f
 |0,_,_=>by rw[List.range'_zero,Ô1];rfl
 |n + 1,i,b=>by
  rw[Ï9,Ê8];show(f i b >>= λx=>_)=_
  congr 1
  funext x
  cases x with
  |done b=>rfl|yield b=>exact c11 f n (i + 1) b
theorem K40{α β:Type}{r:β->α}{a b:Nat}{c:β}{body:Nat->α->StateT Á9 Sem (ForInStep α)}{body':Nat->β->TM (ForInStep β)}(h:∀ x b,Sim prog w A E s κ it (A60 r) (body x (r b)) (body' x b)):Sim prog w A E s κ it r (forIn [a:b] (r c) body) (v70 body' (b - a) a c):=by
 rw[Std.Legacy.Range.forIn_eq_forIn_range',c11];have e:[a:b].size=b - a:=by simp[Std.Legacy.Range.size]
 show Sim prog w A E s κ it r (forIn (Ã8 a [a:b].size 1) (r c) body) _;rw[e];exact c01 h _ c
def o50(prog:ã)(w:ü)(A:À3)(E:Ä->Æ->Prop)(s:Æ)(κ:Ì8)(it:Array Keyed){α β:Type}(r:β->α)(m:StateT Á9 Sem α):Type:={f:TM β // Sim prog w A E s κ it r m f}
section
variable {α β α' β':Type}{r:β->α}{r':β'->α'}
def b40{a:α}(b:β)(e:a=r b):o50 prog w A E s κ it r (pure a):=⟨pure b,B20 b e⟩
def a80{m:StateT Á9 Sem α}{k:α->StateT Á9 Sem α'}(h:o50 prog w A E s κ it r m)(hk:∀ b,o50 prog w A E s κ it r' (k (r b))):o50 prog w A E s κ it r' (m >>= k):=⟨h.1 >>= λb=>(hk b).1,m60 h.2 λb=>(hk b).2⟩
def m70{c:Prop}[Decidable c]{m m':StateT Á9 Sem α}(h1:o50 prog w A E s κ it r m)(h2:o50 prog w A E s κ it r m'):o50 prog w A E s κ it r (if c then m else m'):=⟨if c then h1.1 else h2.1,S91 (λ_=>h1.2) λ_=>h2.2⟩
def s00{m:StateT Á9 Sem α}:o50 prog w A E s κ it r m:=⟨λ_=>none,λ_ _ _ e=>by cases e⟩
def F31{m m':StateT Á9 Sem α}(e:m=m')(h:o50 prog w A E s κ it r m'):o50 prog w A E s κ it r m:=⟨h.1,by rw[e];exact h.2⟩
def s10{a b:Nat}(c:β){body:Nat->α->StateT Á9 Sem (ForInStep α)}(h:∀ x b,o50 prog w A E s κ it (A60 r) (body x (r b))):o50 prog w A E s κ it r (forIn [a:b] (r c) body):=⟨v70 (λx b=>(h x b).1) (b - a) a c,K40 λx b=>(h x b).2⟩
end
def j01(O:Ora prog w A s κ it n cmp)(i j:Nat):o50 prog w A E s κ it (λo:Bool=>some o) (ltAt' i j):=⟨S71 n cmp i j,F11 O i j⟩
def r92(i j:Nat):o50 prog w A E s κ it (λu:Unit=>u) (reverseSlice' i j):=⟨G02 i j,T01 i j⟩
def w32(i j:Nat):o50 prog w A E s κ it (λu:Unit=>u) (moveDown' i j):=⟨S81 i j,F21 i j⟩
def F41(x:String):o50 prog w A E s κ it (λu:Unit=>u) (liftM (rule x):StateT Á9 Sem Unit):=⟨pure (),F01⟩
def K62(O:Ora prog w A s κ it n cmp)(lo n' ok:Nat):o50 prog w A E s κ it (λ_:Unit=>true) (binarySort' lo n' ok):=by
 refine F31 (binarySort'_eq lo n' ok) ?_;refine a80 (r:=λ_:Unit=>((none,()):Option Bool × Unit)) (s10 () λk _=>?_) λ_=>b40 () rfl;refine a80 (r:=λx:Nat × Nat=>((none,x):Option Bool × Nat × Nat)) (s10 (0,k) λ_ x=>?_) λx=>a80 (w32 _ _) λ_=>b40 (Þ ()) rfl;exact m70 (b40 (á x) rfl) (a80 (j01 O _ _) λo=>m70 (b40 (Þ (x.1,_)) rfl) (b40 (Þ (_,x.2)) rfl))
def g82(O:Ora prog w A s κ it n cmp)(lo z:Nat):o50 prog w A E s κ it (λm:Nat=>some m) (countRun' lo z):=by
 refine F31 (countRun'_eq lo z) ?_;refine a80 (r:=λm:Nat=>((none,m):Option (Option Nat) × Nat)) (s10 1 λ_ m=>a80 (j01 O _ _) λ_=>m70 (b40 (á m) rfl) (b40 (Þ (m + 1)) rfl)) λm=>?_;refine m70 (b40 m rfl) (m70 (a80 (j01 O _ _) λ_=>m70 (b40 m rfl) (a80 (r92 _ _) λ_=>?_)) ?_)
 all_goals
  refine a80 (F41 _) λ_=>a80 (r:=λm:Nat=>((none,m,0):Option (Option Nat) × Nat × Nat)) (s10 (m + 1) λ_ m=>a80 (j01 O _ _) λ_=>m70 (m70 s00 (b40 (Þ (m + 1)) rfl)) (a80 (j01 O _ _) λ_=>m70 (b40 (á m) rfl) s00)) λm=>?_;exact m70 s00 (a80 (r92 _ _) λ_=>a80 (r:=λm:Nat=>((none,m):Option (Option Nat) × Nat)) (s10 m λ_ m=>a80 (j01 O _ _) λ_=>m70 (b40 (á m) rfl) (b40 (Þ (m + 1)) rfl)) λm=>b40 m rfl)
def tLt(O:Ora prog w A s κ it n cmp)(x y:Nat):o50 prog w A E s κ it (λo:Bool=>some o) (lt' (ð it x) (ð it y)):=⟨ltT n cmp x y,M71 O x y⟩
def t00(p:Array Nat)(i:Nat):o50 prog w A E s κ it (ð it) (elem' (p.map (ð it)) i):=⟨q41 p i,K30 p i⟩
def q51:Bool->Keyed->Array Keyed->Nat->Nat->Nat->StateT SortSt Sem (Option Nat):=sortPriv% PySem.Builtin.gallop
def X40(O:Ora prog w A s κ it n cmp)(left:Bool)(y:Nat)(p:Array Nat)(base z hint:Nat):o50 prog w A E s κ it (λm:Nat=>some m) (q51 left (ð it y) (p.map (ð it)) base z hint):=by
 refine a80 (r:=λb:Bool=>some b) (a80 (t00 p (base + hint)) λx=>m70 (tLt O x y) (a80 (tLt O y x) λb=>b40 (!b) rfl)) λb=>?_;refine m70 ?_ ?_ <;> refine a80 (r:=λx:Nat × Nat=>((none,x):Option (Option Nat) × Nat × Nat)) (s10 (0,1) λ_ x=>m70 (b40 (á x) rfl) (a80 (r:=λb:Bool=>some b) (a80 (t00 p _) λx=>m70 (tLt O x y) (a80 (tLt O y x) λb=>b40 (!b) rfl)) λb=>m70 (b40 (á x) rfl) (b40 (Þ (x.2,2 * x.2 + 1)) rfl))) λx=>?_
 ·exact a80 (r:=λx:Nat × Nat=>((none,x):Option (Option Nat) × Nat × Nat)) (s10 (hint + x.1 + 1,hint + min x.2 (z - hint)) λ_ x=>m70 (b40 (á x) rfl) (a80 (r:=λb:Bool=>some b) (a80 (t00 p _) λx=>m70 (tLt O x y) (a80 (tLt O y x) λb=>b40 (!b) rfl)) λb=>m70 (b40 (Þ (_,x.2)) rfl) (b40 (Þ (x.1,_)) rfl))) λx=>b40 x.2 rfl
 ·exact a80 (r:=λx:Nat × Nat=>((none,x):Option (Option Nat) × Nat × Nat)) (s10 (hint + 1 - min x.2 (hint + 1),hint - x.1) λ_ x=>m70 (b40 (á x) rfl) (a80 (r:=λb:Bool=>some b) (a80 (t00 p _) λx=>m70 (tLt O x y) (a80 (tLt O y x) λb=>b40 (!b) rfl)) λb=>m70 (b40 (Þ (_,x.2)) rfl) (b40 (Þ (x.1,_)) rfl))) λx=>b40 x.2 rfl
def X50{α β:Type}{r:β->α}{a b:Nat}{i:α}(b':Nat)(eb:b=b')(c:β)(ec:i=r c){body:Nat->α->StateT Á9 Sem (ForInStep α)}(h:∀ x b,o50 prog w A E s κ it (A60 r) (body x (r b))):o50 prog w A E s κ it r (forIn [a:b] i body):=⟨v70 (λx b=>(h x b).1) (b' - a) a c,by subst eb;subst ec;exact K40 λx b=>(h x b).2⟩
def tIf{α β:Type}{r:β->α}{c:Prop}[Decidable c]{m m':StateT Á9 Sem α}(c':Bool)(e:c↔c'=true)(h1:o50 prog w A E s κ it r m)(h2:o50 prog w A E s κ it r m'):o50 prog w A E s κ it r (if c then m else m'):=⟨match c' with
 |true=>h1.1
 |false=>h2.1,by
 cases c' with
 |true=>rw[if_pos (e.mpr rfl)];exact h1.2
 |false=>rw[if_neg λh=>by cases e.mp h];exact h2.2⟩
def T11:o50 prog w A E s κ it (co κ it) (get:StateT Á9 Sem Á9):=⟨get,X30⟩
def w42:Nat->StateT SortSt Sem Unit:=sortPriv% PySem.Builtin.setMinGallop
def g92(g:Nat):o50 prog w A E s κ it (λu:Unit=>u) (w42 g):=⟨modify λt=>{ t with minGallop:=g },q80 λ_=>rfl⟩
def G12(O:Ora prog w A s κ it n cmp)(left:Bool)(y:Nat)(p:Array Nat)(base z z' hint:Nat)(e:z=z'):o50 prog w A E s κ it (λm:Nat=>some m) (q51 left (ð it y) (p.map (ð it)) base z hint):=F31 (by rw[e]) (X40 O left y p base z' hint)
def F51:Array Keyed->Array Keyed->StateT SortSt Sem (Array Keyed):=sortPriv% PySem.Builtin.mergeLo
def rs{γ:Type}(it:Array Keyed)(x:Option (Array Nat) × Array Nat × γ):Option (Array Keyed) × Array Keyed × γ:=(x.1.map (Array.map (ð it)),x.2.1.map (ð it),x.2.2)
theorem sz(it:Array Keyed)(i:Nat)(p:Array Nat):(i == (p.map (ð it)).size)=true↔(i == p.size)=true:=by rw[size_map]
local macro_rules
 | `(tactic| ac_rfl)=>`(tactic| simp only[rs,A60,map_some,Option.map_none,Ö7,Array.map_push,Ï3,size_map])| `(tactic| rwa [$O:term,$p:term,$q:term,$out:term,$ia:term,$ib:term,$mg:term,$ac:term,$bc:term])=>`(tactic| exact a80 (t00 $p $ia) λy=>tIf _ (sz _ _ _) (b40 (á (some (push $out y++Ä7 $q $ib++Ä7 $p ($ia + 1)),push $out y,$ia + 1,$ib,$mg,$ac,$bc)) (by ac_rfl)) (m70 (b40 (á (none,push $out y,$ia + 1,$ib,$mg,$ac,$bc)) (by ac_rfl)) (b40 (Þ (none,push $out y,$ia + 1,$ib,$mg,$ac,$bc)) (by ac_rfl))))| `(tactic| rwa [$O:term,$p:term,$q:term,$out:term,$ia:term,$ib:term,$mg:term,$ac:term,$bc:term,$_x0:term])=>`(tactic| exact a80 (t00 $q $ib) λy=>tIf _ (sz _ _ _) (b40 (á (some (push $out y++Ä7 $p $ia++Ä7 $q ($ib + 1)),push $out y,$ia,$ib + 1,$mg,$ac,$bc)) (by ac_rfl)) (a80 (t00 $p $ia) λz=>a80 (G12 $O true z $q ($ib + 1) _ (Ô4 $q - ($ib + 1)) 0 (by simp[rs])) λk=>m70 (tIf _ (sz _ _ _) (b40 (á (some (push $out y++Ä7 $q ($ib + 1) ($ib + 1 + k)++Ä7 $p $ia++Ä7 $q ($ib + 1 + k)),push $out y++Ä7 $q ($ib + 1) ($ib + 1 + k),$ia,$ib + 1 + k,$mg,$ac,k)) (by ac_rfl)) ((by rwa [$O:term,$p:term,$q:term,(push $out y++Ä7 $q ($ib + 1) ($ib + 1 + k)),$ia:term,($ib + 1 + k),$mg:term,$ac:term,k]))) ((by rwa [$O:term,$p:term,$q:term,(push $out y),$ia:term,($ib + 1),$mg:term,$ac:term,k]))))| `(tactic| rwa [$O:term,$p:term,$q:term,$out:term,$ia:term,$ib:term,$mg:term,$bc:term,$_x0:term,$_x1:term,$_x2:term])=>`(tactic| exact a80 (g92 $mg) λ_=>a80 (t00 $q $ib) λy=>a80 (G12 $O false y $p $ia _ (Ô4 $p - $ia) 0 (by simp[rs])) λk=>m70 (tIf _ (sz _ _ _) (b40 (á (some ($out++Ä7 $p $ia ($ia + k)++Ä7 $q $ib++Ä7 $p ($ia + k)),$out++Ä7 $p $ia ($ia + k),$ia + k,$ib,$mg,k,$bc)) (by ac_rfl)) (tIf _ (sz _ _ _) (b40 (á (some ($out++Ä7 $p $ia ($ia + k)++Ä7 $p ($ia + k)++Ä7 $q $ib),$out++Ä7 $p $ia ($ia + k),$ia + k,$ib,$mg,k,$bc)) (by ac_rfl)) ((by rwa [$O:term,$p:term,$q:term,($out++Ä7 $p $ia ($ia + k)),($ia + k),$ib:term,$mg:term,k,$bc:term,rfl])))) ((by rwa [$O:term,$p:term,$q:term,$out:term,$ia:term,$ib:term,$mg:term,k,$bc:term,rfl])))
def F61(O:Ora prog w A s κ it n cmp)(p q:Array Nat):o50 prog w A E s κ it (Array.map (ð it)) (F51 (p.map (ð it)) (q.map (ð it))):=by
 refine a80 (F41 _) λ_=>a80 (t00 q 0) λx=>?_;refine tIf _ (sz it _ _) (b40 (#[x]++p.extract 0++q.extract 1) (by simp only[Ö7,Ï3,size_map,List.map_toArray,Â0,map_nil])) ?_
 refine tIf _ (sz it _ _) (b40 (#[x]++q.extract 1++p.extract 0) (by simp only[Ö7,Ï3,size_map,List.map_toArray,Â0,map_nil])) ?_
 refine a80 T11 λt=>?_;refine a80 (r:=rs it) (X50 (p.size + q.size) (by simp) (none,#[x],0,1,t.minGallop) (by simp[rs];rfl) λ_ st=>?_) λst=>?_
 ·obtain⟨_,out,ia,ib,mg⟩:=st;refine a80 (r:=rs it) (X50 (p.size + q.size) (by simp) (none,out,ia,ib,0,0) (by simp[rs]) λ_ st=>?_) λst=>?_
  ·obtain⟨_,out,ia,ib,ac,bc⟩:=st;refine a80 (t00 q ib) λy=>a80 (t00 p ia) λz=>a80 (tLt O y z) λo=>m70 (a80 (t00 q ib) λy=>?_) (a80 (t00 p ia) λy=>?_)
   ·exact tIf _ (sz it _ _) (b40 (á (some (out.push y++p.extract ia++q.extract (ib + 1)),out.push y,ia,ib + 1,0,bc + 1)) (by simp[rs,A60])) (m70 (b40 (á (none,out.push y,ia,ib + 1,0,bc + 1)) (by simp[rs,A60])) (b40 (Þ (none,out.push y,ia,ib + 1,0,bc + 1)) (by simp[rs,A60])))
   ·exact tIf _ (sz it _ _) (b40 (á (some (out.push y++q.extract ib++p.extract (ia + 1)),out.push y,ia + 1,ib,ac + 1,0)) (by simp[rs,A60])) (m70 (b40 (á (none,out.push y,ia + 1,ib,ac + 1,0)) (by simp[rs,A60])) (b40 (Þ (none,out.push y,ia + 1,ib,ac + 1,0)) (by simp[rs,A60])))
  ·obtain⟨o,out,ia,ib,ac,bc⟩:=st;cases o with
   |some v=>exact b40 (á (some v,out,ia,ib,mg)) rfl
   |none =>
    refine a80 (F41 _) λ_=>?_;refine a80 (r:=rs it) (X50 (p.size + q.size) (by simp) (none,out,ia,ib,mg + 1,ac,bc) (by simp[rs]) λ_ st=>?_) λst=>?_
    ·obtain⟨_,out,ia,ib,mg,ac,bc⟩:=st;exact m70 ((by rwa [O,p,q,out,ia,ib,(mg - 1),bc,rfl,rfl,rfl])) ((by rwa [O,p,q,out,ia,ib,mg,bc,rfl,rfl,rfl]))
    ·obtain⟨o,out,ia,ib,mg,ac,bc⟩:=st;cases o with
     |some v=>exact b40 (á (some v,out,ia,ib,mg)) rfl|none=>exact a80 (g92 (mg + 1)) λ_=>b40 (Þ (none,out,ia,ib,mg + 1)) rfl
 ·obtain⟨o,_⟩:=st;cases o with
  |none=>exact s00|some v=>exact b40 v rfl
def K72(t':Tw){S:Á9}(e:S=co κ it t'):o50 prog w A E s κ it (λu:PUnit=>u) (set S:StateT Á9 Sem PUnit):=⟨modify λ_=>t',by subst e;exact q80 (F:=λ_=>co κ it t') λ_=>rfl⟩
def w52{F:Á9->Á9}(G:Tw->Tw)(h:∀ t,F (co κ it t)=co κ it (G t)):o50 prog w A E s κ it (λu:Unit=>u) (modify F:StateT Á9 Sem Unit):=⟨modify G,q80 h⟩
theorem fold_map(f:Nat->Keyed)(d:Nat):∀ (l:List Nat) (j:Nat) (a:Array Nat),((l.map f).zipIdx j).foldl (λa x=>setIfInBounds a (d + x.2) x.1) (a.map f)=((l.zipIdx j).foldl (λa x=>setIfInBounds a (d + x.2) x.1) a).map f
 |[],_,_=>rfl
 |x::l,j,a=>by
  have e:(a.map f).setIfInBounds (d + j) (f x)=(a.setIfInBounds (d + j) x).map f:=by simp
  show((l.map f).zipIdx (j + 1)).foldl _ ((a.map f).setIfInBounds (d + j) (f x))=_;rw[e];exact fold_map f d l (j + 1) _
def spl(a:Array Nat)(d:Nat)(l:List Nat):Array Nat:=⟨a.toList.take d++(l++a.toList.drop (d + l.length))⟩
theorem M81(d:Nat):∀ (l:List Nat) (j:Nat) (a:Array Nat),d + j + l.length<=a.size->(l.zipIdx j).foldl (λa x=>setIfInBounds a (d + x.2) x.1) a=spl a (d + j) l
 |[],j,a,_=>by
  show a=_;unfold spl;rw[Â4,Nat.add_zero,É1,List.take_append_drop]
 |x::l,j,a,h=>by
  have hl:d + j + (l.length + 1)<=a.toList.length:=h;show(l.zipIdx (j + 1)).foldl _ (a.setIfInBounds (d + j) x)=_;rw[M81 d l (j + 1) _ (by rw[Array.size_setIfInBounds];have:a.toList.length=a.size:=rfl;omega)]
  unfold spl;rw[Array.toList_setIfInBounds,Õ3,if_pos ∅]
  generalize a.toList=m at hl;have e1:(m.take (d + j)).length=d + j:=by rw[Á7];omega
  have e2:(m.take (d + j)++x::m.drop (d + j + 1)).take (d + (j + 1))=m.take (d + j)++[x]:=by
   rw[List.take_append,e1,show d + (j + 1) - (d + j)=1 by omega,É4 (Ù (Ö4 e1) ∅)]
   rfl
  have e3:(m.take (d + j)++x::m.drop (d + j + 1)).drop (d + (j + 1) + l.length)=m.drop (d + j + (l.length + 1)):=by
   rw[List.drop_append,e1,show d + (j + 1) + l.length - (d + j)=l.length + 1 by omega,Ü8 (Ù (Ö4 e1) ∅),List.drop_succ_cons,List.drop_drop,É1,show d + j + 1 + l.length=d + j + (l.length + 1) by omega]
  rw[e2,e3,Æ1];rfl
def w62{F:Á9->Á9}(c:Tw->Bool)(G:Tw->Tw)(h:∀ t,c t=true->F (co κ it t)=co κ it (G t)):o50 prog w A E s κ it (λu:Unit=>u) (modify F:StateT Á9 Sem Unit):=⟨λt=>match c t with
 |true=>some ((),G t)
 |false=>none,λt b t' e Q q=>by
 dsimp only at e;cases hc:c t with
 |false=>rw[hc] at e;cases e
 |true =>
  rw[hc] at e;cases e;refine kasC_modify ?_;rw[h t hc];exact q⟩
def c21(O:Ora prog w A s κ it n cmp)(i:Nat):o50 prog w A E s κ it (λ_:Unit=>true) (mergeAt' i):=by
 refine a80 T11 λt=>?_;generalize (Õ7 (co κ it t))[i]?=o1;generalize (Õ7 (co κ it t))[i + 1]?=o2;rcases o1 with _ | ⟨sa,na,pw⟩
 ·exact s00
 rcases o2 with _ | ⟨sb,nb,_⟩
 ·exact s00
 refine a80 (K72 { t with pending:=(t.pending.setIfInBounds i (sa,na + nb,pw)).eraseIdxIfInBounds (i + 1) } rfl) λ_=>?_;refine a80 (t00 t.a sb) λy=>a80 (X40 O false y t.a sa na 0) λk=>?_;refine m70 (b40 () rfl) (a80 (t00 t.a _) λy=>a80 (X40 O true y t.a sb nb (nb - 1)) λnb=>m70 (b40 () rfl) (m70 (a80 (F31 ?_ (F61 O (t.a.extract (sa + k) sb) (t.a.extract sb (sb + nb)))) λv=>?_) s00))
 ·rw[Ï3,Ï3];rfl
 ·refine a80 (w62 (λu=>ble (sa + k + v.toList.length) u.a.size) (λu=>{ u with a:=spl u.a (sa + k) v.toList }) λu hu=>?_) λ_=>a80 T11 λ_=>b40 () rfl;have e:=fold_map (ð it) (sa + k) v.toList 0 u.a;rw[← Array.toList_map,M81 (sa + k) v.toList 0 u.a (Nat.le_of_ble_eq_true hu)] at e;exact congrArg (λa=>É9 κ a u.pending u.minGallop none) e
structure G22(prog:Program)(w:World)(A:Around)(E:Value->Shared->Prop)(s:Shared)(κ:SortKind)(it:Array Keyed)(z:Nat)(m:StateT SortSt Sem Unit) where
 body:Nat->Nat->TM (ForInStep Nat)
 tail:Nat->TM Unit
 sim:Sim prog w A E s κ it (λu:Unit=>u) m (v70 body z 0 0 >>= tail)
def mkH{α:Type}{r:Nat->α}{i:α}{z:Nat}(e0:i=r 0){B:Nat->α->StateT Á9 Sem (ForInStep α)}{k:α->StateT Á9 Sem Unit}(hb:∀ x lo,o50 prog w A E s κ it (A60 r) (B x (r lo)))(hk:∀ lo,o50 prog w A E s κ it (λu:Unit=>u) (k (r lo))) :
  G22 prog w A E s κ it z (forIn [0:z] i B >>= k) where
 body:=λx lo=>(hb x lo).1
 tail:=λlo=>(hk lo).1
 sim:=by
  subst e0;exact m60 (K40 λx b=>(hb x b).2) λb=>(hk b).2
structure j11(prog:Program)(w:World)(A:Around)(E:Value->Shared->Prop)(s:Shared)(κ:SortKind)(it:Array Keyed)(m:StateT SortSt Sem Unit) where
 body:Tw->Nat->Nat->TM (ForInStep Nat)
 tail:Tw->Nat->TM Unit
 sim:Sim prog w A E s κ it (λu:Unit=>u) m (get >>= λt=>v70 (body t) t.a.size 0 0 >>= tail t)
def mkW{F:Á9->StateT Á9 Sem Unit}(h:∀ t:Tw,G22 prog w A E s κ it t.a.size (F (co κ it t))):j11 prog w A E s κ it (get >>= F) where
 body:=λt=>(h t).body
 tail:=λt=>(h t).tail
 sim:=m60 X30 λt=>(h t).sim
def j11.cast{m m':StateT Á9 Sem Unit}(e:m=m')(h:j11 prog w A E s κ it m'):j11 prog w A E s κ it m:=⟨h.body,h.tail,by rw[e];exact h.sim⟩
def k10(O:Ora prog w A s κ it n cmp):j11 prog w A E s κ it sortRuns':=by
 refine j11.cast sortRuns'_eq (mkW λt=>?_);generalize hz:Ô4 (arrOf (co κ it t))=z;have hz':t.a.size=z:=Array.size_map.symm.trans hz;clear hz;subst hz';refine mkH (r:=λm:Nat=>((none,m):Option Unit × Nat)) rfl (λ_ lo=>m70 (b40 (á lo) rfl) (a80 (g82 O _ _) λm=>?_)) (λ_=>?_)
 ·refine m70 (a80 (F41 _) λ_=>a80 (K62 O _ _ _) λ_=>m70 s00 (a80 T11 λu=>?_)) (a80 T11 λu=>?_)
  all_goals
   generalize Array.back? (Õ7 (co κ it u))=o1;rcases o1 with _ | ⟨s1,n1,_⟩
   ·exact a80 (w52 (λu=>{ u with pending:=u.pending.push (lo,_,0) }) λ_=>rfl) λ_=>b40 (Þ (lo + _)) rfl
   ·refine a80 (r:=λ_:Unit=>((none,()):Option Unit × Unit)) (s10 () λ_ _=>a80 T11 λu=>?_) λ_=>a80 (w52 (λu=>{ u with pending:=u.pending.modify (u.pending.size - 1) λx=>(x.1,x.2.1,_) }) λ_=>rfl) λ_=>a80 (w52 (λu=>{ u with pending:=u.pending.push (lo,_,0) }) λ_=>rfl) λ_=>b40 (Þ (lo + _)) rfl;dsimp only;generalize (if Ô4 (Õ7 (co κ it u)) > 1 then(Õ7 (co κ it u))[Ô4 (Õ7 (co κ it u)) - 2]? else none)=o2;rcases o2 with _ | ⟨_,_,old⟩
    ·exact b40 (á ()) rfl
    ·exact m70 (b40 (á ()) rfl) (a80 (c21 O _) λ_=>m70 s00 (b40 (Þ ()) rfl))
 ·exact a80 (r:=λ_:Unit=>((none,()):Option Unit × Unit)) (s10 () λ_ _=>a80 T11 λu=>m70 (b40 (á ()) rfl) (a80 (c21 O _) λ_=>m70 s00 (b40 (Þ ()) rfl))) λ_=>b40 () rfl
end
def upN:Nat->Nat->Nat->List Nat
 |0,_,h=>[h]|b + 1,v,h=>upN b (2 * v) (h + v)++upN b (2 * v) h
def neN:Nat->Nat->Nat->List Nat
 |0,_,_=>[]|b + 1,v,h=>(h + v)::(neN b (2 * v) (h + v)++neN b (2 * v) h)
def sN(b:Nat):List Nat:=0::neN b 1 0
def D50:Nat->Nat->Nat->List Nat
 |0,_,_=>[]|k + 1,i,m=>if Nat.testBit m 0 then i::D50 k (i + 1) (m / 2) else D50 k (i + 1) (m / 2)
def s02:List Nat->List Nat->Bool
 |[],[]=>false|[],_::_=>true|_::_,[]=>false|a::r,b::q=>if beq a b then s02 r q else Nat.blt a b
def x70(K i j:Nat):Bool:=s02 (D50 K 0 i) (D50 K 0 j)
section
variable {prog:ã}{w:ü}{A:À3}{E:Ä->Æ->Prop}{s:Æ}{κ:Ì8}{it:Array Keyed}
def T0(K:Nat):Tw:=⟨⟨Û (2 ^ K)⟩,#[],7⟩
def TZ(K p:Nat):Tw:=⟨⟨sN K⟩,#[(0,2 ^ K,p)],7⟩
theorem A70{β:Type}{f:Nat->β->TM (ForInStep β)}{n i:Nat}{b b':β}{t t':Tw}{r:Option (β × Tw)}(h:f i b t=some (.yield b',t'))(h2:v70 f n (i + 1) b' t'=r):v70 f (n + 1) i b t=r:=by
 show Option.bind (f i b t) _=r;rw[h];exact h2
def goW{K:Nat}(O:Ora prog w A s κ it (2 ^ K) (x70 K)):TM Unit:=get >>= λt=>v70 ((k10 (E:=E) O).body t) t.a.size 0 0 >>= (k10 (E:=E) O).tail t
theorem two{K n:Nat}{t:Tw}{r:Option (Unit × Tw)}(O:Ora prog w A s κ it (2 ^ K) (x70 K))(h:v70 ((k10 (E:=E) O).body (T0 K)) (2 ^ K) 0 0 (T0 K)=some (n,t))(h2:(k10 (E:=E) O).tail (T0 K) n t=r):goW (E:=E) O (T0 K)=r:=by
 show Option.bind (v70 ((k10 (E:=E) O).body (T0 K)) (Û (2 ^ K)).length 0 0 (T0 K)) _=r;rw[ì,h];exact h2
theorem w1(O:Ora prog w A s κ it (2 ^ 1) (x70 1)):goW (E:=E) O (T0 1)=some ((),TZ 1 0):=by kernel_rfl
theorem w2(O:Ora prog w A s κ it (2 ^ 2) (x70 2)):goW (E:=E) O (T0 2)=some ((),TZ 2 0):=by kernel_rfl
theorem w3(O:Ora prog w A s κ it (2 ^ 3) (x70 3)):goW (E:=E) O (T0 3)=some ((),TZ 3 0):=by kernel_rfl
theorem w4(O:Ora prog w A s κ it (2 ^ 4) (x70 4)):goW (E:=E) O (T0 4)=some ((),TZ 4 0):=by kernel_rfl
theorem w5(O:Ora prog w A s κ it (2 ^ 5) (x70 5)):goW (E:=E) O (T0 5)=some ((),TZ 5 0):=by kernel_rfl
theorem w6(O:Ora prog w A s κ it (2 ^ 6) (x70 6)):goW (E:=E) O (T0 6)=some ((),TZ 6 1):=by kernel_rfl
theorem K82(O:Ora prog w A s κ it (2 ^ 7) (x70 7)):(k10 (E:=E) O).body (T0 7) 0 0 (T0 7)=some (.yield 32,⟨⟨sN 5++Ã8 32 96⟩,#[(0,32,0)],7⟩):=by kernel_rfl
theorem K92(O:Ora prog w A s κ it (2 ^ 7) (x70 7)):(k10 (E:=E) O).body (T0 7) 1 32 ⟨⟨sN 5++Ã8 32 96⟩,#[(0,32,0)],7⟩=some (.yield 64,⟨⟨sN 5++(upN 5 1 32++Ã8 64 64)⟩,#[(0,32,2),(32,32,0)],7⟩):=by kernel_rfl
theorem L02(O:Ora prog w A s κ it (2 ^ 7) (x70 7)):(k10 (E:=E) O).body (T0 7) 2 64 ⟨⟨sN 5++(upN 5 1 32++Ã8 64 64)⟩,#[(0,32,2),(32,32,0)],7⟩=some (.yield 96,⟨⟨sN 6++(upN 5 1 64++Ã8 96 32)⟩,#[(0,64,1),(64,32,0)],7⟩):=by kernel_rfl
theorem L12(O:Ora prog w A s κ it (2 ^ 7) (x70 7)):(k10 (E:=E) O).body (T0 7) 3 96 ⟨⟨sN 6++(upN 5 1 64++Ã8 96 32)⟩,#[(0,64,1),(64,32,0)],7⟩=some (.yield 128,⟨⟨sN 6++(upN 5 1 64++upN 5 1 96)⟩,#[(0,64,1),(64,32,2),(96,32,0)],7⟩):=by kernel_rfl
theorem L22(O:Ora prog w A s κ it (2 ^ 7) (x70 7)):v70 ((k10 (E:=E) O).body (T0 7)) 124 4 128 ⟨⟨sN 6++(upN 5 1 64++upN 5 1 96)⟩,#[(0,64,1),(64,32,2),(96,32,0)],7⟩=some (128,⟨⟨sN 6++(upN 5 1 64++upN 5 1 96)⟩,#[(0,64,1),(64,32,2),(96,32,0)],7⟩):=by kernel_rfl
theorem L32(O:Ora prog w A s κ it (2 ^ 7) (x70 7)):(k10 (E:=E) O).tail (T0 7) 128 ⟨⟨sN 6++(upN 5 1 64++upN 5 1 96)⟩,#[(0,64,1),(64,32,2),(96,32,0)],7⟩=some ((),TZ 7 1):=by kernel_rfl
theorem w7(O:Ora prog w A s κ it (2 ^ 7) (x70 7)):goW (E:=E) O (T0 7)=some ((),TZ 7 1):=two O (A70 (K82 O) (A70 (K92 O) (A70 (L02 O) (A70 (L12 O) (L22 O))))) (L32 O)
theorem L42(O:Ora prog w A s κ it (2 ^ 8) (x70 8)):(k10 (E:=E) O).body (T0 8) 0 0 (T0 8)=some (.yield 32,⟨⟨sN 5++Ã8 32 224⟩,#[(0,32,0)],7⟩):=by kernel_rfl
theorem L52(O:Ora prog w A s κ it (2 ^ 8) (x70 8)):(k10 (E:=E) O).body (T0 8) 1 32 ⟨⟨sN 5++Ã8 32 224⟩,#[(0,32,0)],7⟩=some (.yield 64,⟨⟨sN 5++(upN 5 1 32++Ã8 64 192)⟩,#[(0,32,3),(32,32,0)],7⟩):=by kernel_rfl
theorem L62(O:Ora prog w A s κ it (2 ^ 8) (x70 8)):(k10 (E:=E) O).body (T0 8) 2 64 ⟨⟨sN 5++(upN 5 1 32++Ã8 64 192)⟩,#[(0,32,3),(32,32,0)],7⟩=some (.yield 96,⟨⟨sN 6++(upN 5 1 64++Ã8 96 160)⟩,#[(0,64,2),(64,32,0)],7⟩):=by kernel_rfl
theorem L72(O:Ora prog w A s κ it (2 ^ 8) (x70 8)):(k10 (E:=E) O).body (T0 8) 3 96 ⟨⟨sN 6++(upN 5 1 64++Ã8 96 160)⟩,#[(0,64,2),(64,32,0)],7⟩=some (.yield 128,⟨⟨sN 6++(upN 5 1 64++(upN 5 1 96++Ã8 128 128))⟩,#[(0,64,2),(64,32,3),(96,32,0)],7⟩):=by kernel_rfl
theorem L82(O:Ora prog w A s κ it (2 ^ 8) (x70 8)):(k10 (E:=E) O).body (T0 8) 4 128 ⟨⟨sN 6++(upN 5 1 64++(upN 5 1 96++Ã8 128 128))⟩,#[(0,64,2),(64,32,3),(96,32,0)],7⟩=some (.yield 160,⟨⟨sN 7++(upN 5 1 128++Ã8 160 96)⟩,#[(0,128,1),(128,32,0)],7⟩):=by kernel_rfl
theorem L92(O:Ora prog w A s κ it (2 ^ 8) (x70 8)):(k10 (E:=E) O).body (T0 8) 5 160 ⟨⟨sN 7++(upN 5 1 128++Ã8 160 96)⟩,#[(0,128,1),(128,32,0)],7⟩=some (.yield 192,⟨⟨sN 7++(upN 5 1 128++(upN 5 1 160++Ã8 192 64))⟩,#[(0,128,1),(128,32,3),(160,32,0)],7⟩):=by kernel_rfl
theorem M02(O:Ora prog w A s κ it (2 ^ 8) (x70 8)):(k10 (E:=E) O).body (T0 8) 6 192 ⟨⟨sN 7++(upN 5 1 128++(upN 5 1 160++Ã8 192 64))⟩,#[(0,128,1),(128,32,3),(160,32,0)],7⟩=some (.yield 224,⟨⟨sN 7++(upN 6 1 128++(upN 5 1 192++Ã8 224 32))⟩,#[(0,128,1),(128,64,2),(192,32,0)],7⟩):=by kernel_rfl
theorem M12(O:Ora prog w A s κ it (2 ^ 8) (x70 8)):(k10 (E:=E) O).body (T0 8) 7 224 ⟨⟨sN 7++(upN 6 1 128++(upN 5 1 192++Ã8 224 32))⟩,#[(0,128,1),(128,64,2),(192,32,0)],7⟩=some (.yield 256,⟨⟨sN 7++(upN 6 1 128++(upN 5 1 192++upN 5 1 224))⟩,#[(0,128,1),(128,64,2),(192,32,3),(224,32,0)],7⟩):=by kernel_rfl
theorem M22(O:Ora prog w A s κ it (2 ^ 8) (x70 8)):v70 ((k10 (E:=E) O).body (T0 8)) 248 8 256 ⟨⟨sN 7++(upN 6 1 128++(upN 5 1 192++upN 5 1 224))⟩,#[(0,128,1),(128,64,2),(192,32,3),(224,32,0)],7⟩=some (256,⟨⟨sN 7++(upN 6 1 128++(upN 5 1 192++upN 5 1 224))⟩,#[(0,128,1),(128,64,2),(192,32,3),(224,32,0)],7⟩):=by kernel_rfl
theorem M32(O:Ora prog w A s κ it (2 ^ 8) (x70 8)):(k10 (E:=E) O).tail (T0 8) 256 ⟨⟨sN 7++(upN 6 1 128++(upN 5 1 192++upN 5 1 224))⟩,#[(0,128,1),(128,64,2),(192,32,3),(224,32,0)],7⟩=some ((),TZ 8 1):=by kernel_rfl
theorem w8(O:Ora prog w A s κ it (2 ^ 8) (x70 8)):goW (E:=E) O (T0 8)=some ((),TZ 8 1):=two O (A70 (L42 O) (A70 (L52 O) (A70 (L62 O) (A70 (L72 O) (A70 (L82 O) (A70 (L92 O) (A70 (M02 O) (A70 (M12 O) (M22 O))))))))) (M32 O)
theorem M42{K:Nat}(h1:1<=K)(h8:K<=8)(O:Ora prog w A s κ it (2 ^ K) (x70 K)):∃ p,goW (E:=E) O (T0 K)=some ((),TZ K p):=by
 match K,h1,h8,O with
 |1,_,_,O=>exact⟨_,w1 O⟩|2,_,_,O=>exact⟨_,w2 O⟩|3,_,_,O=>exact⟨_,w3 O⟩|4,_,_,O=>exact⟨_,w4 O⟩|5,_,_,O=>exact⟨_,w5 O⟩|6,_,_,O=>exact⟨_,w6 O⟩|7,_,_,O=>exact⟨_,w7 O⟩|8,_,_,O=>exact⟨_,w8 O⟩
theorem runL{K:Nat}{vs:List Ä}(h1:1<=K)(h8:K<=8)(hv:vs.length=2 ^ K)(O:Ora prog w A s κ (vs.toArray.zip vs.toArray) (2 ^ K) (x70 K)):MySort.w22 prog w A s vs (λp=>p=sN K) κ:=by
 refine⟨sN K,rfl,λE Q q=>?_⟩;obtain⟨pp,e⟩:=M42 (E:=E) h1 h8 O;have r:=(k10 (E:=E) O).sim (T0 K) () (TZ K pp) e (λu st s'=>s'=s/\failedOf st=none/\arrOf st=((sN K).toArray).map (ð (vs.toArray.zip vs.toArray))) ⟨rfl,rfl,rfl⟩;have est:É9 κ (vs.toArray.zip vs.toArray) #[] 7 none=co κ (vs.toArray.zip vs.toArray) (T0 K):=by
  have e:=kas_range (vs.toArray.zip vs.toArray);rw[show(vs.toArray.zip vs.toArray).size=2 ^ K by simp[hv]] at e
  show _=É9 κ ((toArray (Û (2 ^ K))).map (ð (vs.toArray.zip vs.toArray))) #[] 7 none;rw[e]
 rw[est];refine Ä4 r (λx s' h=>?_) λ_ _ e=>e;obtain⟨rfl,h2,h3⟩:=h;exact q x.2 h2 h3
end
end TS
namespace HT
open PySem PyProof.Rows
section
open PySem.SeqAt
open PySem.AutoSeq1 (wpAny_loadPart')
open PySem.MeetsSeq PySem.MeetsSeq2 PySem.MeetsSeq3
open MySort (k00)
def leB(ns ms:List Int):Bool:=!k00 ms ns
theorem F71(x y:Int)(r q:List Int):leB (x::r) (y::q)=if x=y then leB r q else decide (x<=y):=by
 show(!(if y=x then k00 q r else decide (y < x)))=_;by_cases e:x=y
 ·rw[if_pos e,if_pos e.symm];rfl
 ·rw[if_neg e,if_neg (À6 e)];by_cases l:y < x
  ·rw[decide_eq_true l,decide_eq_false ∅];rfl
  ·rw[decide_eq_false l,decide_eq_true ∅];rfl
theorem F81(A:À3)(s:Æ)(a:Int)(t:Tok)(c:Int)(u:Tok)(P:ã)(w:ü)(E:Ä->Æ->Prop)(Q:Ä->Æ->Prop)(h:Q (.bool (decide (a<=c))) s):Ñ (Ü P w) A (richCompare .LtE (.int a t) (.int c u)) Q E s :=
 (PyProof.Rows.le_int h:Ñ (Ü P w) A (ú .LtE (.int a t) (.int c u)) Q E s)
theorem K50(l b:È)(i1 i2:Array Ä)(n n2:Nat)(dd dd2:Option È)(sl sl2:Array (Option Ä))(ns ms:List Int)(hi:É5 i1.toList ns)(hj:É5 i2.toList ms) :
  Meets (Å6.«tuple.__le__» ⟨[.ref l,.ref b],[]⟩) (λ_ R s=>s.heap.get? l=some { cls:=.type "tuple",dict:=dd,data:=.seq i1 n,slots:=sl }/\s.heap.get? b=some { cls:=.type "tuple",dict:=dd2,data:=.seq i2 n2,slots:=sl2 }/\R (.ok (.ret (.bool (leB ns ms)))) s) :=
 .of_wp λP w A R s h=>by
  obtain⟨hp,g,d,tk,os⟩:=s;obtain⟨hl,hb,h⟩:=h;have f2:=Ù5;have z1:i1.size=ns.length:=by rw[← hi.length];simp
  have z2:i2.size=ms.length:=by rw[← hj.length];simp
  wp_walk using Ã7 hl,Ã7 hb,wpAny_forIn_list _ (λrest b s'=>b.1=none/\s'=⟨hp,g,d,tk,os⟩/\∃ (vs ws:List Ä) (ns' ms':List Int),rest=vs.zip ws/\É5 vs ns'/\É5 ws ms'/\ns'.length + i2.size=ms'.length + i1.size/\R (.ok (.ret (.bool (leB ns' ms')))) ⟨hp,g,d,tk,os⟩) _
  case turn =>
   rintro ⟨y,x⟩ rest b s' ⟨hb',rfl,vs,ws,ns',ms',hz,hvi,hwi,hlen,hR⟩;cases hvi with
   |nil=>rw[Õ8] at hz;cases hz
   |cons a t hvi' =>
    cases hwi with
    |nil=>rw[List.zip_nil_right] at hz;cases hz
    |cons c u hwi' =>
     rw[È5] at hz;injection hz with hyx hrest;injection hyx with hy hx;subst hy hx;rw[F71] at hR;simp only[Ú] at hlen;obtain⟨e,he,hiff⟩:=D51 A.in1 ⟨hp,g,d,tk,os⟩ a t c u;refine Á (he P w _ _ ?_);cases e with
     |true =>
      rw[if_pos (hiff.mp rfl)] at hR;wp_walk;exact⟨rfl,rfl,_,_,_,_,hrest,hvi',hwi',by omega,hR⟩
     |false =>
      rw[if_neg (λq=>absurd (hiff.mpr q) Ó)] at hR;have hri:=F81 A.in1 ⟨hp,g,d,tk,os⟩ a t c u P w
      wp_walk using hri
      exact⟨_,rfl,by simpa using hR⟩
  case fin =>
   rintro ⟨b1,b2⟩ s' ⟨hb',rfl,vs,ws,ns',ms',hz,hvi,hwi,hlen,hR⟩;simp only at hb';subst hb';have hv:leB ns' ms'=decide (i1.size<=i2.size):=by
    cases hvi with
    |nil =>
     cases hwi with
     |nil=>simp only[Â4] at hlen;exact(decide_eq_true ∅).symm|cons c u hw=>simp only[Â4,Ú] at hlen;exact(decide_eq_true ∅).symm
    |cons a t hv =>
     cases hwi with
     |nil=>simp only[Â4,Ú] at hlen;exact(decide_eq_false ∅).symm|cons c u hw=>rw[È5] at hz;cases hz
   rw[hv] at hR;wp_walk;exact⟨_,rfl,by simpa [tupleCompareSizes] using hR⟩
  case h=>exact⟨rfl,rfl,i1.toList,i2.toList,ns,ms,rfl,hi,hj,by omega,h⟩
end
section
variable {P:ã}{w:ü}{A:À3}{E:Ä->Æ->Prop}{s:Æ}
theorem j21(hl:Í0 s.heap l i1)(hb:Í0 s.heap b i2)(hi:É5 i1.toList ns)(hj:É5 i2.toList ms)
  (hu:A.units < Ä9) (h:Q (.bool (leB ns ms)) s):Ñ (Ü P w) A (ú .LtE (.ref l) (.ref b)) Q E s:=by
 obtain⟨⟨cls,dd,data,sl⟩,ho,hc,n,hd⟩:=id hl;obtain⟨⟨cls2,dd2,data2,sl2⟩,ho2,hc2,n2,hd2⟩:=id hb;simp only at hc hd hc2 hd2;subst hc hd hc2 hd2;exact richCompare_meets_room (op:=.LtE) ⟨_,ho,rfl⟩ ⟨_,ho2,rfl⟩ PySem.F.slot_tuple_le PySem.F.entry_tuple_le (PySem.F.args_tuple_le_2 _ _) (K50 l b i1 i2 n n2 dd dd2 sl sl2 ns ms hi hj)
  ⟨ho,ho2,show Ì7 (leB ns ms)≠Ñ6/\Q (.bool (leB ns ms)) s from⟨(λx=>nomatch x),h⟩⟩ hu
theorem T21{t b:È}{ws:List Ä}{Q:Ä->Æ->Prop}(ht:Í0 s.heap t #[])(hb:Í0 s.heap b ws.toArray)(h:Q (.ref b) s):Ñ (Ü P w) A (Ã6 .Add (.ref t) (.ref b)) Q E s:=by
 obtain⟨⟨cls,dd,data,sl⟩,ho,hc,n,hd⟩:=id ht;obtain⟨⟨cls2,dd2,data2,sl2⟩,ho2,hc2,n2,hd2⟩:=id hb;simp only at hc hd hc2 hd2;subst hc hd hc2 hd2;exact concat_meets ⟨_,ho,rfl⟩ ⟨_,ho2,rfl⟩ Û5 seq_tuple_add Ï5 Î8 (Í9 _ _) (tuple_addW0 t b #[] ws.toArray n n2 dd dd2 sl sl2 (by simp)) ⟨ho,ho2,h⟩
theorem S10:seqRepeat? (.type "tuple")=pure (some (.builtin "tuple.__mul__")):=by
 first | kernel_rfl | rfl | (unfold seqRepeat?;kernel_rfl)
theorem A80:fillsNumberSlot (.type "tuple") "mul"=pure false:=by
 first | kernel_rfl | rfl
theorem j31(a:Int)(t:Tok)(l:È)(xs:Array Ä)(n:Nat)(dd:Option È)(sl:Array (Option Ä)) :
  Meets (Å6.«int.__rmul__» ⟨[.int a t,.ref l],[]⟩) (λ_ R s=>s.heap.get? l=some { cls:=.type "tuple",dict:=dd,data:=.seq xs n,slots:=sl }/\R (.ok (.ret Ñ6)) s) :=
 .of_wp λP w A R s h=>by obtain⟨hp,g,d,tk,os⟩:=s;obtain⟨hl,h⟩:=h;wp_walk;exact⟨_,rfl,h⟩
theorem F91(l:È)(xs:Array Ä)(k:Int)(u:Tok)(n:Nat)(dd:Option È)(sl:Array (Option Ä))(h1:¬ (decide (k < -(2 ^ 63)) || decide (k ≥ 2 ^ 63))=true)(h2:(xs.isEmpty || k == 1)=true) :
  Meets (Å6.«tuple.__mul__» ⟨[.ref l,.int k u],[]⟩) (λ_ R s=>s.heap.get? l=some { cls:=.type "tuple",dict:=dd,data:=.seq xs n,slots:=sl }/\R (.ok (.ret (.ref l))) s) :=
 .of_wp λP w A R s h=>by
  obtain⟨hp,g,d,tk,os⟩:=s;obtain⟨hl,h⟩:=h;have f1:=Ô6
  wp_walk using Â8 hl
  simp only[h1,if_false]
  wp_walk using Â8 hl
  exact⟨_,rfl,h⟩
theorem mul_zero(l:È)(xs:Array Ä)(k:Int)(u:Tok)(n:Nat)(dd:Option È)(sl:Array (Option Ä))(h1:¬ (decide (k < -(2 ^ 63)) || decide (k ≥ 2 ^ 63))=true)(h2:¬ (xs.isEmpty || k == 1)=true)(h3:(decide (k<=0) || xs.isEmpty)=true) :
  Meets (Å6.«tuple.__mul__» ⟨[.ref l,.int k u],[]⟩) (λ_ R s=>s.heap.get? l=some { cls:=.type "tuple",dict:=dd,data:=.seq xs n,slots:=sl }/\R (.ok (.ret (.ref s.heap.objs.size))) { s with heap:=s.heap.push { cls:=.type "tuple",data:=.seq #[] } }) :=
 .of_wp λP w A R s h=>by
  obtain⟨hp,g,d,tk,os⟩:=s;obtain⟨hl,h⟩:=h;have f1:=Ô6
  wp_walk using Â8 hl
  simp only[h1,if_false]
  wp_walk using Â8 hl
  exact⟨_,rfl,h⟩
theorem G01(l:È)(xs:Array Ä)(k:Int)(u:Tok)(n:Nat)(dd:Option È)(sl:Array (Option Ä))(h1:¬ (decide (k < -(2 ^ 63)) || decide (k ≥ 2 ^ 63))=true)(h2:¬ (xs.isEmpty || k == 1)=true)(h3:¬ (decide (k<=0) || xs.isEmpty)=true)
  (h4:¬ (xs.size:Int) * k > (2 ^ 63 - 1) / 8) (h5:¬ tupleTooMany ((xs.size:Int) * k)=true) (h6:(foldl (λx y=>x++y) #[] (æ k.toNat xs)).size<=sizeLine) :
  Meets (Å6.«tuple.__mul__» ⟨[.ref l,.int k u],[]⟩) (λ_ R s=>s.heap.get? l=some { cls:=.type "tuple",dict:=dd,data:=.seq xs n,slots:=sl }/\R (.ok (.ret (.ref s.heap.objs.size))) { s with heap:=s.heap.push { cls:=.type "tuple",data:=.seq (foldl (λx y=>x++y) #[] (æ k.toNat xs)) } }) :=
 .of_wp λP w A R s h=>by
  obtain⟨hp,g,d,tk,os⟩:=s;obtain⟨hl,h⟩:=h;have f1:=Ô6
  wp_walk using Â8 hl
  simp only[h1,if_false]
  wp_walk using Â8 hl
  simp only[h4,h5,if_false];refine Á (m:=Å0 _) (ò (Ê ?_) h6);exact⟨_,rfl,h⟩
end
theorem v80(f:α->Option β)(g:α->β):∀ (l:List α),(∀ k∈l,f k=some (g k))->l.filterMap f=l.map g
 |[],_=>rfl|x::r,h=>by rw[Á2,h x É,Â0,v80 f g r λk hk=>h k (Å _ hk)]
section
variable {P:ã}{w:ü}{A:À3}{E:Ä->Æ->Prop}{s:Æ}
theorem t10{t sl:È}{xs:Array Ä}{vl vu:Ä}{lo hi:Option Int}{Q:Ä->Æ->Prop}(ht:Í0 s.heap t xs)(hs:s.heap.IsSliceOf sl vl vu .none)(pl:Õ4 vl lo)(pu:Õ4 vu hi)
  (hw:sIx xs.size 0 lo=0/\sIx xs.size xs.size hi=xs.size) (h:Q (.ref t) s):Ñ (Ü P w) A (Ð8 (.ref t) (.ref sl)) Q E s:=by
 obtain⟨os,hos,hcs,hds⟩:=id hs;have hTs:s.TypeIs (.ref sl) "slice":=⟨os,hos,hcs⟩;unfold Ð8;try with_reducible refine Ç0 ?_
 first | refine Á (Ê ?_) | skip
 refine Á (Ù6 ht.typeIs (-0) ?_);refine Á (Â1 (name:=Á5 "__getitem__") ht.typeIs ï (Ä2 ï ht.typeIs entry_tuple_getitem ?_ (Ø6 _ _)))
 show Ñ _ _ (tupleItemsOf (.ref t) >>= _) _ _ s;refine Á (tupleItemsOf_ ht (Á (Ê3 hTs ?_)));rw[if_pos (-0)];refine Á (n90 hs pl pu ?_)
 rw[hw.1,hw.2];show Ñ _ _ (if (((0:Nat):Int) == 0&&(1:Int) == 1&&(xs.size - 0) == xs.size)=true then _ else _) _ _ s;rw[if_pos (by simp)]
 refine Á (m:=tupleIsExact _) ?_;unfold tupleIsExact;refine Á (Ê3 ht.typeIs (Ê ?_));rw[if_pos (-0)]
 first
  |exact Á (Ï1 (Ê ⟨_,rfl,Ê h⟩))
  |exact Á (Ï1 (Á (Ê (Ê ⟨_,rfl,Ê h⟩))))
theorem y10{t sl:È}{xs:List Ä}{u:Tok}{Q:Ä->Æ->Prop}(ht:Í0 s.heap t xs.toArray)(hs:s.heap.IsSliceOf sl .none .none (.int (-1) u))
  (h:Q (.ref s.heap.objs.size) { s with heap:=s.heap.push { cls:=.type "tuple",data:=.seq xs.reverse.toArray } }) (hz:xs.length<=sizeLine):Ñ (Ü P w) A (Ð8 (.ref t) (.ref sl)) Q E s:=by
 obtain⟨os,hos,hcs,hds⟩:=id hs;have hTs:s.TypeIs (.ref sl) "slice":=⟨os,hos,hcs⟩;unfold Ð8;try with_reducible refine Ç0 ?_
 first | refine Á (Ê ?_) | skip
 refine Á (Ù6 ht.typeIs (-0) ?_);refine Á (Â1 (name:=Á5 "__getitem__") ht.typeIs ï (Ä2 ï ht.typeIs entry_tuple_getitem ?_ (Ø6 _ _)))
 show Ñ _ _ (tupleItemsOf (.ref t) >>= _) _ _ s;refine Á (tupleItemsOf_ ht (Á (Ê3 hTs ?_)));rw[if_pos (-0)]
 have app:∀ {R:Int × Int × Nat->Æ->Prop},R ((xs.length:Int) - 1,-1,xs.length) s->Ñ (Ü P w) A.in1 (Ñ1 (.ref sl) (pure (xs.toArray.size:Int))) R E s:=λ{R} q=>by
  unfold Ñ1 sliceFields;refine Á (Á (À7 hos hds (x:=.none) rfl (Á (À7 hos hds (x:=.none) rfl (Á (À7 hos hds (x:=.int (-1) u) rfl (Ê ?_)))))));refine Á (slicePart_int ?_);show Ñ _ _ (if ((-1:Int) == 0)=true then _ else _) _ _ s;rw[if_neg (-0)]
  refine Á (Ô8 (Á (Ô8 (Á (Ê ?_)))));have e1:Ë5 none none (-1) (xs.toArray.size:Int)=((xs.length:Int) - 1,-1):=by simp[Ë5]
  have e2:Ç2 ((xs.length:Int) - 1) (-1) (-1)=xs.length:=by
   unfold Ç2;rw[if_neg (-0)]
   split
   ·simp only[Int.neg_neg,Int.ediv_one];omega
   ·omega
  show Ñ _ _ (match Ë5 none none (-1) (xs.toArray.size:Int) with | (lo,hi)=>pure (lo,(-1:Int),Ç2 lo hi (-1))) _ _ s
  rw[e1];show Ñ _ _ (pure ((xs.length:Int) - 1,(-1:Int),Ç2 ((xs.length:Int) - 1) (-1) (-1))) _ _ s;rw[e2];exact Ê q
 refine Á (app ?_);show Ñ _ _ (if (((xs.length:Int) - 1) == 0&&(-1:Int) == 1&&xs.length == xs.toArray.size)=true then _ else _) _ _ s;rw[if_neg (by simp)]
 have pick:((Û xs.length).filterMap λ(k:Nat)=>xs.toArray[((xs.length:Int) - 1 + (k:Int) * -1).toNat]?)=xs.reverse:=by
  refine List.ext_getElem? λi=>?_;have hall:∀ k∈Û xs.length,xs.toArray[((xs.length:Int) - 1 + (k:Int) * -1).toNat]?=some (xs.getD (xs.length - 1 - k) å):=λk hk=>by
   have hk':k < xs.length:=by simpa using hk
   have e:((xs.length:Int) - 1 + (k:Int) * -1).toNat=xs.length - 1 - k:=by omega
   rw[e];have:xs.length - 1 - k < xs.length:=by omega
   simp[this]
  rw[v80 _ _ _ hall,Ö];by_cases hi:i < xs.length
  ·have h2:xs.length - 1 - i < xs.length:=by omega
   rw[Ì0 hi,List.getElem?_reverse hi];simp[h2]
  ·rw[Ê2 (by simpa using hi),Ê2 (by simpa using hi)];rfl
 rw[pick];have hsz:sizeOk (.seq xs.reverse.toArray):=by show xs.reverse.toArray.size<=sizeLine;rw[Ô,Ó8];exact hz
 first
  |exact Á (m:=Å0 _) (ò (Ê ⟨_,rfl,Ê h⟩) hsz)
  |exact Á (m:=Å0 _) (ò (Á (Ê (Ê ⟨_,rfl,Ê h⟩))) hsz)
  |exact Á (Á (m:=Å0 _) (ò (Ê (Ê ⟨_,rfl,Ê h⟩)) hsz))
  |exact Á (Á (m:=Å0 _) (ò (Ê ⟨_,rfl,Ê h⟩) hsz))
end
end HT
namespace L2
open PySem PySem.Spec PyProof.Rows
theorem a40.sqT{K:Â}{H H':Hp}{a:È}{xs:List V}(e:a40 H H')(h:SqT K H a xs):SqT K H' a xs:=by
 rcases h with (h | ⟨o,h⟩) | h
 ·exact .inl (.inl (e _ _ h))
 ·exact .inl (.inr ⟨o,e _ _ h⟩)
 ·exact .inr h
theorem a40.new(o:HO)(n:H p=none):a40 H (upd H p o):=λb u e=>by rw[a30 (b10 e n)];exact e
def G11(K:Â)(H:Hp)(zs:List V)(Q:VK):Prop:=∀ p H',a40 H H'->SqT K H' p zs->Q (.ref p) H'
section
variable {X:Cx}{pins:List (È × Obj)}{σ:St}{H:Hp}{s:Æ}
theorem G11.here(q:G11 X.K H zs Q)(I:Inv X pins σ H s)(h:SqT X.K H a zs):EP X pins σ Q (.ref a) s:=⟨.ref a,H,I,rfl,q a H (a40.refl H) h⟩
theorem G11.new(q:G11 X.K H zs Q)(I:Inv X pins σ H s)(r:Vals zs us)(hz:zs.length<=sizeLine) :
  EP X pins σ Q (.ref s.heap.objs.size) { s with heap:=s.heap.push { cls:=.type "tuple",data:=.seq us.toArray } } :=
 have hn:H s.heap.objs.size=none:=I.hok.fresh (Ì _)
 ⟨.ref s.heap.objs.size,_,I.laid (t':=s.toks) (o:=.tup zs) (λb ob q=>Ã _ q) (Ì _) ⟨hz,_,r,Í0.new _ _⟩,rfl,q _ _ (a40.new _ hn) (SqT.of b50)⟩
end
section
variable {X:Cx}
def M52(K:Â):R2:=λx y H Q=>∃ a b ns ms,x=.ref a/\y=.ref b/\SqT K H a (ns.map V.int)/\SqT K H b (ms.map V.int)/\Q (.bl (HT.leB ns ms)) H
theorem h02(hu:X.A.units < Ä9):OpR X (ú .LtE) (M52 X.K):=by
 intro pins s σ H x y v u Q I rx ry h;obtain⟨a,b,ns,ms,rfl,rfl,ha,hb,q⟩:=h;cases rx;cases ry;obtain⟨v1,r1,p1,_⟩:=I.tuple ha;obtain⟨v2,r2,p2,_⟩:=I.tuple hb;exact HT.j21 p1 p2 (show É5 v1.toArray.toList ns from intsAre_of r1) (show É5 v2.toArray.toList ms from intsAre_of r2) hu ⟨.bl (HT.leB ns ms),H,I,rfl,q⟩
def w72(K:Â):R2:=λx y H Q=>∃ a b xs ys,x=.ref a/\y=.ref b/\SqT K H a xs/\SqT K H b ys/\xs.length + ys.length<=sizeLine/\G11 K H (xs++ys) Q
theorem T31:OpR X (Ã6 .Add) (w72 X.K):=by
 intro pins s σ H x y v u Q I rx ry h;obtain⟨a,b,xs,ys,rfl,rfl,ha,hb,hz,q⟩:=h;cases rx;cases ry;obtain⟨v1,r1,p1,_⟩:=I.tuple ha;obtain⟨v2,r2,p2,_⟩:=I.tuple hb;by_cases hx:xs=[]
 ·subst hx;have e:=r1.J30.mpr rfl;subst e;exact HT.T21 p1 p2 (q.here I hb)
 ·refine HT.R41 p1 p2 (λz=>hx (r1.J30.mp z)) (λz=>?_) (λz=>q.new I (r1.append r2) (by rw[À0];exact hz)) (by rw[← r1.length,← r2.length];exact hz)
  have e:=r2.J30.mp z;subst e;rw[Ë0] at q;exact q.here I ha
def w82(K:Â):R2:=λx y H Q=>∃ a k xs,x=.ref a/\y=.int k/\SqT K H a xs/\0<=k/\k < 1000000/\k.toNat * xs.length<=sizeLine/\G11 K H (æ k.toNat xs).flatten Q
theorem T41:OpR X (Ã6 .Mult) (w82 X.K):=by
 intro pins s σ H x y v u Q I rx ry h;obtain⟨a,k,xs,rfl,rfl,ha,hk,hk2,hz,q⟩:=h;cases rx;obtain⟨t,rfl⟩:=ry;obtain⟨v1,r1,p1,_⟩:=I.tuple ha;have hl:=r1.length;obtain⟨⟨cls,dd,data,sl⟩,ho,hc,n,hd⟩:=id p1;simp only at hc hd;subst hc hd;have h1:¬ (decide (k < -(2 ^ 63)) || decide (k ≥ 2 ^ 63))=true:=by simp;omega
 refine wpAny_binaryOp_repeat_ref (T:="tuple") (U:="int") (-0) ⟨_,ho,rfl⟩ (λs'=>Ø4 s' k t) HT.A80 F.fills_int_mul Ò4 HT.S10 F.slot_int_index.lookup
  (Æ7 Ò4 (Ø4 s k t) F.entry_int_rmul (F.args_int_rmul_2 _ _) (HT.j31 k t a v1.toArray n dd sl) ⟨ho,rfl,⟨_,ho,rfl⟩,?_⟩)
 by_cases hx:v1=[]∨k=1
 ·refine Æ7 Ú6 ⟨_,ho,rfl⟩ Ù2 (Ö6 _ _) (HT.F91 a v1.toArray k t n dd sl h1 (by rcases hx with hx | hx <;> simp[hx])) ⟨ho,?_⟩
  have e2:(æ k.toNat xs).flatten=xs:=by
   rcases hx with hx | hx
   ·rw[r1.J30.mp hx];simp
   ·rw[hx];simp
  rw[e2] at q;exact q.here I ha
 ·have hv:v1≠[]:=λz=>hx (.inl z);have h2:¬ (v1.toArray.isEmpty || k == 1)=true:=by simp[hv];exact λz=>hx (.inr z)
  by_cases hk0:k=0
  ·refine Æ7 Ú6 ⟨_,ho,rfl⟩ Ù2 (Ö6 _ _) (HT.mul_zero a v1.toArray k t n dd sl h1 h2 (by simp[hk0])) ⟨ho,?_⟩
   rw[show(æ k.toNat xs).flatten=[] by rw[hk0];rfl] at q
   exact q.new I .nil (Å4 _)
  have hpos:0 < v1.length:=List.length_pos_iff.mpr hv;have hfl:foldl (λx y=>x++y) #[] (æ k.toNat v1.toArray)=(æ k.toNat v1).flatten.toArray:=by
   have:=foldl_rep v1 k.toNat [];rw[É1] at this;exact this
  have hsz:v1.length * k.toNat<=sizeLine:=by rw[← hl,Ö2];exact hz
  have hcast:((v1.toArray.size:Nat):Int) * k=((v1.length * k.toNat:Nat):Int):=by rw[Ô,Int.natCast_mul,Int.toNat_of_nonneg ∅]
  have hline:(sizeLine:Nat)<=(2 ^ 63 - 1) / 8:=by decide
  refine Æ7 Ú6 ⟨_,ho,rfl⟩ Ù2 (Ö6 _ _) (HT.G01 a v1.toArray k t n dd sl h1 h2 (by simp[hv];omega) (by rw[hcast];generalize v1.length * k.toNat=m at hsz;omega) (by rw[hcast];generalize v1.length * k.toNat=m at hsz;unfold tupleTooMany;intro z;have z':=of_decide_eq_true z;omega)
   (by rw[hfl,Ô,len_rep,Ö2];exact hsz)) ⟨ho,?_⟩
  rw[hfl];exact q.new I (r1.rep k.toNat) (by rw[len_rep];exact hz)
def M62(K:Â):V->Option Int->Option Int->Hp->VK->Prop:=λx lo hi H Q=>∃ a xs,x=.ref a/\SqT K H a xs/\G11 K H (D81 xs lo hi) Q
theorem T51:SlR X (M62 X.K):=by
 intro pins s σ H x v vl vu lo hi sl Q I rx hs pl pu h;obtain⟨a,xs,rfl,hx,q⟩:=h;cases rx;obtain⟨its,r,ht,hz⟩:=I.tuple hx;have hlen:its.toArray.size=xs.length:=by rw[Ô];exact r.length.symm
 refine⟨"tuple",_,ï.lookup,ht.typeIs,?_⟩;by_cases hw:HT.sIx xs.length 0 lo=0/\HT.sIx xs.length xs.length hi=xs.length
 ·refine HT.t10 ht hs pl pu (by rw[hlen];exact hw) ?_
  have e:D81 xs lo hi=xs:=by unfold D81;rw[hw.1,hw.2];simp
  rw[e] at q;exact q.here I hx
 ·refine HT.y00 ht hs pl pu (by rw[hlen];exact hw) ?_ (by rw[hlen];exact hz)
  rw[hlen];exact q.new I ((r.drop (HT.sIx xs.length 0 lo)).take (HT.sIx xs.length xs.length hi - HT.sIx xs.length 0 lo)) (Ù (D10 xs lo hi) hz)
def r92(K:Â)(te ts:TE):TE:=λσ H Q=>te σ H λx H1=>ts σ H1 λy H2=>y=.int (-1)/\((∃ a xs,x=.ref a/\SqT K H2 a xs/\G11 K H2 xs.reverse Q)∨∃ a xs,x=.ref a/\SqL K H2 a xs/\∀ p,H2 p=none->Q (.ref p) (upd H2 p (.lst xs.reverse)))
theorem G32{e st:Ð}{te ts:TE}{p2 pos:Pos}(he:PE X e te)(hst:PE X st ts):PE X (.Subscript e (.Slice none none (some st) p2) pos) (r92 X.K te ts):=by
 intro pins s σ H Q I h;refine Subscript_ (thn (he pins s σ H _ I h) λv s1 ⟨x,H1,I1,r1,q1⟩=>?_);refine wpAny_Slice ?_;rw[evalPart_none];refine Ê (Ê ?_);rw[evalPart_some];refine thn (hst pins s1 σ H1 _ I1 q1) λw' s2 ⟨y,H2,I2,r2,q2⟩=>?_;obtain⟨rfl,q2⟩:=q2;obtain⟨t,rfl⟩:=r2;have I4:Inv X pins σ H2 { s2 with heap:=s2.heap.push { cls:=.type "slice",data:=.fields #[.none,.none,.int (-1) t] } }:=I2.kept (t':=s2.toks) λb ob q=>Ã _ q;show Ñ (Ü X.prog X.w) X.A (subscriptTail e (.Slice none none (some st) p2) v (.ref s2.heap.objs.size)) (EP X pins σ Q) X.xe { s2 with heap:=s2.heap.push { cls:=.type "slice",data:=.fields #[.none,.none,.int (-1) t] } };rcases q2 with ⟨a,xs,rfl,hq,q⟩ | ⟨a,xs,rfl,hq,q⟩
 ·cases r1;obtain⟨its,r,ht,hz⟩:=I4.tuple hq;exact tail_any (ops:=[.ref a,.ref s2.heap.objs.size]) ht.typeIs ï.lookup (HT.y10 ht (Ð3 ..) (q.new I4 r.reverse (by rw[Ó8];exact hz)) (by rw[← r.length];exact hz)) (by with_unfolding_all rfl)
 ·cases r1;obtain⟨its,r,ht,hz⟩:=I4.list hq;have hlen:=r.length;refine tail_any (ops:=[.ref a,.ref s2.heap.objs.size]) ht.isList.typeIs slot_list_getitem.lookup (wpAny_getItem_list_slice ht.isList (Ð3 ..) .none .none (.int (-1) t) (by simp) ?_ (by rw[Ô] <;> omega)) (by with_unfolding_all rfl)
  rw[PySem.W.krv_pick];refine⟨.ref _,_,I4.laid (t':=s2.toks) (o:=.lst xs.reverse) (λb ob q=>Ã _ q) (Ì _) ?_,rfl,q _ (I4.hok.fresh (Ì _))⟩;exact⟨by rw[Ó8];exact hz,its.reverse,0,r.reverse,Ï _ rfl⟩
theorem G42:OpR X (ú .Is) (λx y H Q=>∃ b c,x=.bl b/\y=.bl c/\Q (.bl (b == c)) H):=by
 intro pins s σ H x y v u Q I rx ry h;obtain⟨b,c,rfl,rfl,q⟩:=h;cases rx;cases ry;exact is_bool (b41 I q rfl)
theorem h32:OpR X (ú .IsNot) (λx y H Q=>∃ b c,x=.bl b/\y=.bl c/\Q (.bl (b != c)) H):=by
 intro pins s σ H x y v u Q I rx ry h;obtain⟨b,c,rfl,rfl,q⟩:=h;cases rx;cases ry;exact isnot_bool (b41 I q rfl)
theorem Inv.big(I:Inv X pins σ H s):Ï2 < s.heap.objs.size:=by
 have h:ó < s.heap.objs.size:=(I.mod.glob.keeps I.bk).lt;exact Nat.lt_trans (-0) h
def w92:TE:=λ_ H Q=>∀ p,H p=none->Q (.ref p) (upd H p (.dK []))
theorem q61:PE X (.Dict [] [] pos) w92:=λpins s σ H Q I h =>
 wpAny_Dict_empty ⟨.ref s.heap.objs.size,_,I.laid (a:=s.heap.objs.size) (o:=.dK []) (t':=s.toks) (λ_ _ q=>Ã _ q) (Ì _) ⟨Å4 _,beq_eq_false_iff_ne.mpr (À6 (ê I.big)),[],.nil,õ.DictOf.new _⟩,rfl,h _ (I.hok.fresh (Ì _))⟩
end
end L2
namespace MySort
open PySem PySem.W PyProof.Rows
section
variable {P:ã}{w:ü}{A:À3}{E:Ä->Æ->Prop}{s:Æ}
theorem X60(ho:s.heap.get? l=some o)(hc:o.cls=.type "list"∨o.cls=.type "tuple")(hd:o.data=.seq vs.toArray n)
  (h:Q vs { s with heap:=(s.heap.push (Ã0 "list" #[] 0)).update s.heap.objs.size (À9 (·++vs.toArray)) }) (hz:vs.length<=sizeLine):Ñ (Ü P w) A (collect (.ref l)) Q E s:=by
 unfold collect;refine Á (wpAny_runValue (Í7 entry_proto_collect' ?_));show Ñ _ _ (do again (.builtin "list.__iadd__" ⟨[← newList [],.ref l],[]⟩)) _ _ s;refine Á (wpAny_newList (Ê ⟨Code.quiet_builtin _ (by decide +kernel),Í7 entry_list_iadd' ?_⟩))
 show Ñ _ _ (Ê0 (.ref s.heap.objs.size) (.ref l) (.ref s.heap.objs.size)) _ _ { s with heap:=s.heap.push (Ã0 "list" #[] 0) };unfold Ê0;have ho':(s.heap.push (Ã0 "list" #[] 0)).get? l=some o:=Ã _ ho;have fin:Ñ (Ü P w) A (do
   let o ← load s.heap.objs.size
   match o.data with
   |.seq xs _=>pure xs.toList
   |_=>unsupported "internal:collect") Q E { s with heap:=(s.heap.push (Ã0 "list" #[] 0)).update s.heap.objs.size (À9 (·++vs.toArray)) }:=by
  refine Á (wpAny_load (Ü4 (Ï _ rfl) _) ?_);show Ñ _ _ (pure ((#[]:Array Ä)++vs.toArray).toList) Q E _;rw[show((#[]:Array Ä)++vs.toArray).toList=vs by simp];exact Ê h
 rcases hc with hc | hc
 ·refine Á (Ê3 (T:="list") ⟨o,ho',hc⟩ ?_);rw[if_pos (by rw[show(Â9 "list" == Â9 "list")=true by rfl];simp)]
  refine Á (Î6 ho' hd (Á (Î6 (xs:=#[]) (n:=0) (Ï _ rfl) rfl ?_)));rw[if_neg (by simp)]
  exact Á (Ø0 (xs:=#[]) (n:=0) (Ï _ rfl) rfl (Ê fin) (Å4 _) (by show(#[]++vs.toArray).size<=sizeLine + 1;simp only[Array.size_append,Ô,Â4];omega))
 ·refine Á (Ê3 (T:="tuple") ⟨o,ho',hc⟩ ?_);rw[if_pos (by rw[show(Â9 "tuple" == Â9 "tuple")=true by rfl];simp)]
  refine Á (Î6 ho' hd (Á (Î6 (xs:=#[]) (n:=0) (Ï _ rfl) rfl ?_)));rw[if_neg (by simp)]
  exact Á (Ø0 (xs:=#[]) (n:=0) (Ï _ rfl) rfl (Ê fin) (Å4 _) (by show(#[]++vs.toArray).size<=sizeLine + 1;simp only[Array.size_append,Ô,Â4];omega))
theorem q71(ho:s.heap.get? l=some o)(hc:o.cls=.type "list"∨o.cls=.type "tuple")(hd:o.data=.seq vs.toArray n)
  (hk:∀ h',q31 s.heap h'->g52 P w A.in1.in1 { s with heap:=h' } vs Pr kd)
  (h:∀ (p:List Nat) (h':õ) (c:Nat),Pr p->(∀ b o,s.heap.get? b=some o->h'.get? b=some o)->h'.get? (s.heap.objs.size + 1)=some (Ã0 "list" (p.map λi=>vs.getD i å).toArray c)->Q (.ref (s.heap.objs.size + 1)) { s with heap:=h' }) :
  Ñ (Ü P w) A (call (.builtin "sorted") [.ref l]) Q E s:=by
 have h64:=(hk s.heap λ_ _ e _=>e).len;refine Calls.call_function_entry kind_sorted plain_sorted entry_sorted (args_sorted1 _) ?_;unfold Å6.«sorted»;refine Á (m:=checkCount "sorted" 1 1 _) (Ê ?_);refine Á (X60 ho hc hd ?_ (by rw[Á4];omega));refine Á (wpAny_newList ?_ (by rw[Á4];omega))
 have hsz:((s.heap.push (Ã0 "list" #[] 0)).update s.heap.objs.size (À9 (·++vs.toArray))).objs.size=s.heap.objs.size + 1:=by rw[õ.size_update,size_push']
 have hoL:(((s.heap.push (Ã0 "list" #[] 0)).update s.heap.objs.size (À9 (·++vs.toArray))).push (Ã0 "list" vs.toArray 0)).get? (s.heap.objs.size + 1)=some (Ã0 "list" vs.toArray 0):=by rw[← hsz];exact Ï _ rfl
 have keep:∀ b o,s.heap.get? b=some o->(((s.heap.push (Ã0 "list" #[] 0)).update s.heap.objs.size (À9 (·++vs.toArray))).push (Ã0 "list" vs.toArray 0)).get? b=some o:=λb o q=>by
  have hlt:b < s.heap.objs.size:=â q;rw[õ.get?_push_ne _ _ _ (by rw[hsz];exact ê (Ë3 hlt)),õ.get?_update_ne _ _ _ _ (ê hlt),õ.get?_push_ne _ _ _ (ê hlt)];exact q
 show Ñ _ _ _ _ _ { s with heap:=((s.heap.push (Ã0 "list" #[] 0)).update s.heap.objs.size (À9 (·++vs.toArray))).push (Ã0 "list" vs.toArray 0) };rw[hsz];refine Á (Ç0 (Ä2 slot_list_sort ⟨_,hoL,rfl⟩ entry_list_sort (E91 hoL (λh' kp=>hk h' λb o e hc=>kp b o (keep b o e) hc) λp h' c hp kp hD=>⟨_,rfl,Ê ⟨_,rfl,h p h' c hp (λb o e=>kp b o (ê (Ë3 (â e))) (keep b o e)) hD⟩⟩) (args_list_sort _)))
end
end MySort
namespace L2
open PySem PySem.Spec PyProof.Rows
open MySort (sortedBy)
section
variable {X:Cx}
def T61(X:Cx)(H:Hp)(xs:List V)(Pr:List Nat->Prop):Prop:=∀ (pins:List (È × Obj)) (σ:St) (s:Æ) (us:List Ä),Inv X pins σ H s->Vals xs us->∃ kd,∀ h',MySort.q31 s.heap h'->MySort.g52 X.prog X.w X.A.in1.in1 { s with heap:=h' } us Pr kd
theorem z40:g60 X (.builtin "sorted") (λargs H Q=>∃ a xs,∃ Pr:List Nat->Prop,args=[.ref a]/\(SqL X.K H a xs∨SqT X.K H a xs)/\T61 X H xs Pr/\(∀ p,Pr p->∀ i∈p,i < xs.length)/\∀ p l,Pr p->H l=none->Q (.ref l) (upd H l (.lst (p.map λi=>xs.getD i .non)))):=by
 intro pins s σ H args us Q I r h;obtain⟨a,xs,Pr,rfl,hq,hk,hpr,q⟩:=h;obtain⟨u,rfl,rx⟩:=vals1 r;cases rx;have go:∀ (its:List Ä) (o:Obj) (n:Nat),Vals xs its->s.heap.get? a=some o->(o.cls=.type "list"∨o.cls=.type "tuple")->o.data=.seq its.toArray n->Ñ (Ü X.prog X.w) X.A (call (.builtin "sorted") [.ref a]) (EP X pins σ Q) X.xe s:=λits o n rv ho hc hd=>by
  obtain⟨kd,kw⟩:=hk pins σ s its I rv;have k0:=kw s.heap λ_ _ e _=>e;refine MySort.q71 ho hc hd kw λp h' c hp kp hD=>?_;have hn:H (s.heap.objs.size + 1)=none:=I.hok.fresh (È0 _ 1);have hlen:(p.map λi=>xs.getD i .non).length<=sizeLine:=by rw[Ç,k0.all p hp,Á4];have:=k0.len;omega
  have rv':Vals (p.map λi=>xs.getD i .non) (p.map λi=>its.getD i å):=by
   have hall:=hpr p hp;clear hp hD hlen
   induction p with
   |nil=>exact .nil
   |cons i r ih =>
    refine .cons ?_ (ih λj hj=>hall j (Å _ hj));have hi:=hall i É;obtain⟨u,hu,ru⟩:=rv.get (i:=i) (x:=xs[i]) (by simp[hi])
    have e1:xs.getD i V.non=xs[i]:=by simp[hi]
    have e2:its.getD i å=u:=by rw[Í,hu];rfl
    show RelV (xs.getD i V.non) (its.getD i å);rw[e1,e2];exact ru
  exact⟨.ref (s.heap.objs.size + 1),_,I.laid (t':=s.toks) kp (È0 _ 1) (show i80 X.prog X.w _ h' _ (.lst _) from⟨hlen,_,c,rv',hD⟩),rfl,q p _ hp hn⟩
 rcases hq with hq | hq
 ·obtain⟨its,rv,pl,_⟩:=I.list hq;obtain⟨o,ho,hc,n,hd⟩:=pl.isList;exact go its o n rv ho (.inl hc) hd
 ·obtain⟨its,rv,⟨o,ho,hc,n,hd⟩,_⟩:=I.tuple hq;exact go its o n rv ho (.inr hc) hd
end
inductive D where
 |non | bl (b:Bool) | int (i:Int) | str (x:Str) | tup (ds:List D) | lst (ds:List D) | dct
def D.ty:D->String
 |.non=>"NoneType"|.bl _=>"bool"|.int _=>"int"|.str _=>"str"|.tup _=>"tuple"|.lst _=>"list"|.dct=>"dict"
mutual
def Has(K:Â)(H:Hp):D->V->Prop
 |.non,v=>v=.non|.bl b,v=>v=.bl b|.int i,v=>v=.int i|.str x,v=>v=.str x|.tup ds,v=>∃ a xs,v=.ref a/\SqT K H a xs/\H60 K H ds xs|.lst ds,v=>∃ a xs,v=.ref a/\SqL K H a xs/\H60 K H ds xs|.dct,v=>∃ a kvs,v=.ref a/\H a=some (.dK kvs)
def H60(K:Â)(H:Hp):List D->List V->Prop
 |[],xs=>xs=[]|d::ds,xs=>∃ x r,xs=x::r/\Has K H d x/\H60 K H ds r
end
def isB(T C:String):Bool:=T == C || (T == "bool"&&C == "int")
theorem T71(K:Â)(d:D):∀ C∈["int","bool","tuple","list","str"],PySem.W.kitOne K (.type d.ty) (.type C)=some (isB d.ty C):=by
 intro C hC;simp only[Á1,Â5,or_false] at hC;rcases hC with rfl | rfl | rfl | rfl | rfl <;> cases d <;> first | rfl | kernel_rfl | decide +kernel
section
variable {X:Cx}
theorem G21:g60 X (.builtin "isinstance") (λxs H Q=>∃ d x C,xs=[x,.ty C]/\Has X.K H d x/\C∈["int","bool","tuple","list","str"]/\Q (.bl (isB d.ty C)) H):=by
 intro pins s σ H xs us Q I r h;obtain⟨d,x,C,rfl,hd,hC,q⟩:=h;obtain⟨u,w',rfl,rx,rt⟩:=vals2 r;cases (show w'=Â9 C from rt);have e:=T71 X.K d C hC;have fin:∀ tk,EP X pins σ Q (.bool (isB d.ty C)) { s with toks:=tk }:=λtk=>⟨.bl _,H,I.tok tk,rfl,q⟩;cases d with
 |non=>unfold Has at hd;subst hd;cases rx;exact Ô0 kitx_none I.kIn È8 e (λz=>nomatch z) fin
 |bl b=>unfold Has at hd;subst hd;cases rx;exact Ô0 kitx_bool I.kIn È8 e (λz=>nomatch z) fin
 |int i=>unfold Has at hd;subst hd;obtain⟨t,rfl⟩:=rx;exact Ô0 kitx_int I.kIn È8 e (λz=>nomatch z) fin
 |str y=>unfold Has at hd;subst hd;obtain⟨t,rfl⟩:=rx;exact Ô0 kitx_str I.kIn È8 e (λz=>nomatch z) fin
 |tup ds =>
  unfold Has at hd;obtain⟨a,ys,rfl,hq,_⟩:=hd;cases rx;obtain⟨its,_,⟨o,h1,h2,_⟩,_⟩:=I.tuple hq;exact Ô0 kitx_tuple I.kIn ⟨o,h1,h2⟩ e (λz=>nomatch z) fin
 |lst ds =>
  unfold Has at hd;obtain⟨a,ys,rfl,hq,_⟩:=hd;cases rx;obtain⟨its,_,pl,_⟩:=I.list hq;obtain⟨o,h1,h2,_⟩:=pl.isList;exact Ô0 kitx_list I.kIn ⟨o,h1,h2⟩ e (λz=>nomatch z) fin
 |dct =>
  unfold Has at hd;obtain⟨a,kvs,rfl,hq⟩:=hd;cases rx;obtain⟨_,_,vs,_,p⟩:=(show i80 X.prog X.w H s.heap a (.dK kvs) from I.hok a _ hq);obtain⟨o,es,ep,h1,h2,_⟩:=p;exact Ô0 kitx_dict I.kIn ⟨o,h1,h2.1⟩ e (λz=>nomatch z) fin
end
def hide(st:È)(H:Hp):Hp:=λb=>if b=st then none else H b
theorem d80(st:È)(H:Hp):a40 (hide st H) H:=λb o e=>by
 unfold hide at e;split at e
 ·cases e
 ·exact e
theorem D60{st:È}{H H':Hp}(e:∀ b o,b≠st->H b=some o->H' b=some o):a40 (hide st H) (hide st H'):=λb o h=>by
 unfold hide at h ⊢;by_cases q:b=st
 ·rw[if_pos q] at h;cases h
 ·rw[if_neg q] at h ⊢;exact e b o q h
theorem m80{st b:È}{H:Hp}{o:HO}(h:H b=some o)(n:b≠st):hide st H b=some o:=by
 unfold hide;rw[if_neg n];exact h
end L2
namespace L2
open PySem PySem.Spec PyProof.Rows
theorem G31{σ:St}{H:Hp}{R:Bool->Hp->Prop}(h:R true H):i71 σ H R:=h
section
variable {X:Cx}
theorem h42(K:Â)(d:D):kitAny K (.type d.ty) [.type "tuple",.type "list"]=some (isB d.ty "tuple" || isB d.ty "list"):=by
 have e1:=T71 K d "tuple" (by simp)
 have e2:=T71 K d "list" (by simp)
 unfold kitAny;rw[e1];cases isB d.ty "tuple" with
 |true=>rfl
 |false =>
  show kitAny K (.type d.ty) [.type "list"]=_;unfold kitAny;rw[e2];cases isB d.ty "list" <;> rfl
theorem q81:g60 X (.builtin "isinstance") (λxs H Q=>∃ d x a,xs=[x,.ref a]/\Has X.K H d x/\SqT X.K H a [.ty "tuple",.ty "list"]/\Q (.bl (isB d.ty "tuple" || isB d.ty "list")) H):=by
 intro pins s σ H xs us Q I r h;obtain⟨d,x,a,rfl,hd,hq,q⟩:=h;obtain⟨u,w',rfl,rx,rt⟩:=vals2 r;cases (show w'=Å3 a from rt);obtain⟨its,rv,⟨⟨cls,dd,data,sl⟩,ho,hc,n,hdt⟩,_⟩:=I.tuple hq;simp only at hc hdt;subst hc hdt;have eits:its=[.type "tuple",.type "list"]:=by
  cases rv with
  |cons p r=>cases r with
   |cons p2 r2=>cases r2;rw[show _=Â9 "tuple" from p,show _=Â9 "list" from p2]
 subst eits;have e:=h42 X.K d;have fin:∀ tk,EP X pins σ Q (.bool (isB d.ty "tuple" || isB d.ty "list")) { s with toks:=tk }:=λtk=>⟨.bl _,H,I.tok tk,rfl,q⟩;cases d with
 |non=>unfold Has at hd;subst hd;cases rx;exact Ó9 kitx_none I.kIn È8 ho e (λz=>nomatch z) fin
 |bl b=>unfold Has at hd;subst hd;cases rx;exact Ó9 kitx_bool I.kIn È8 ho e (λz=>nomatch z) fin
 |int i=>unfold Has at hd;subst hd;obtain⟨t,rfl⟩:=rx;exact Ó9 kitx_int I.kIn È8 ho e (λz=>nomatch z) fin
 |str y=>unfold Has at hd;subst hd;obtain⟨t,rfl⟩:=rx;exact Ó9 kitx_str I.kIn È8 ho e (λz=>nomatch z) fin
 |tup ds =>
  unfold Has at hd;obtain⟨b,ys,rfl,hq',_⟩:=hd;cases rx;obtain⟨_,_,⟨o,h1,h2,_⟩,_⟩:=I.tuple hq';exact Ó9 kitx_tuple I.kIn ⟨o,h1,h2⟩ ho e (λz=>nomatch z) fin
 |lst ds =>
  unfold Has at hd;obtain⟨b,ys,rfl,hq',_⟩:=hd;cases rx;obtain⟨_,_,pl,_⟩:=I.list hq';obtain⟨o,h1,h2,_⟩:=pl.isList;exact Ó9 kitx_list I.kIn ⟨o,h1,h2⟩ ho e (λz=>nomatch z) fin
 |dct =>
  unfold Has at hd;obtain⟨b,kvs,rfl,hq'⟩:=hd;cases rx;obtain⟨_,_,vs,_,p⟩:=(show i80 X.prog X.w H s.heap b (.dK kvs) from I.hok b _ hq');obtain⟨o,es,ep,h1,h2,_⟩:=p;exact Ó9 kitx_dict I.kIn ⟨o,h1,h2.1⟩ ho e (λz=>nomatch z) fin
end
open PySem PySem.Spec PyProof.Rows PySem.SeqAt
theorem K60(l b:È)(es:Array DictEntry)(n:Nat)(it:Array Ä)(n2:Nat)(dd dd2:Option È)(sl sl2:Array (Option Ä)) :
  Meets (Å6.«dict.__ne__» ⟨[.ref l,.ref b],[]⟩) (λ_ R s=>s.heap.get? l=some { cls:=.type "dict",dict:=dd,data:=.dict es n,slots:=sl }/\s.heap.get? b=some { cls:=.type "tuple",dict:=dd2,data:=.seq it n2,slots:=sl2 }/\R (.ok (.ret .notImplemented)) s) :=
 .of_wp λprog w A R s h=>by
  obtain⟨hp,g,d,tk,os⟩:=s;obtain⟨hl,hb,h⟩:=h;have f1:=F.sub_tuple_dict
  wp_walk using Ã7 hl,Ã7 hb
  exact⟨_,rfl,h⟩
theorem K70(l b:È)(es:Array DictEntry)(n:Nat)(it:Array Ä)(n2:Nat)(dd dd2:Option È)(sl sl2:Array (Option Ä)) :
  Meets (Å6.«tuple.__ne__» ⟨[.ref b,.ref l],[]⟩) (λ_ R s=>s.heap.get? l=some { cls:=.type "dict",dict:=dd,data:=.dict es n,slots:=sl }/\s.heap.get? b=some { cls:=.type "tuple",dict:=dd2,data:=.seq it n2,slots:=sl2 }/\R (.ok (.ret .notImplemented)) s) :=
 .of_wp λprog w A R s h=>by
  obtain⟨hp,g,d,tk,os⟩:=s;obtain⟨hl,hb,h⟩:=h;have f1:=F.sub_dict_tuple
  wp_walk using Ã7 hl,Ã7 hb
  exact⟨_,rfl,h⟩
section
variable {X:Cx}
theorem T81(hu:X.A.units + 64 < Ä9):OpR X (ú .NotEq) (λx y H Q=>∃ a b kvs xs,x=.ref a/\y=.ref b/\H a=some (.dK kvs)/\SqT X.K H b xs/\Q (.bl true) H):=by
 intro pins s σ H x y v u Q I rx ry h;obtain⟨a,b,kvs,xs,rfl,rfl,ha,hb,q⟩:=h;cases rx;cases ry;obtain⟨v2,r2,⟨o2,h2,c2,n2,d2⟩,_⟩:=I.tuple hb;obtain⟨_,_,vs,_,p⟩:=(show i80 X.prog X.w H s.heap a (.dK kvs) from I.hok a _ ha);obtain⟨o1,es,n1,h1,c1,d1,_⟩:=p;have c1:=c1.1;obtain⟨cls,dd,data,sl⟩:=o1;obtain⟨cls2,dd2,data2,sl2⟩:=o2;simp only at c1 d1 c2 d2;subst c1 d1 c2 d2;have hne:a≠b:=λe=>by
  subst e;rw[h1] at h2;simp at h2
 have hu':X.A.units < cLine:=by omega
 refine rc_ne_decline_or (k:=false) ⟨_,h1,rfl⟩ ⟨_,h2,rfl⟩ (-0) F.sub_tuple_dict F.slot_dict_ne F.slot_tuple_ne_refl
  (λ_ hq=>Æ7 F.slot_dict_ne ⟨_,h1,rfl⟩ F.entry_dict_ne (F.args_dict_ne_2 _ _) (K60 a b es n1 v2.toArray n2 dd dd2 sl sl2) ⟨h1,h2,hq⟩)
  (λ_ hq=>Æ7 F.slot_tuple_ne_refl ⟨_,h2,rfl⟩ F.entry_tuple_ne (F.args_tuple_ne_2 _ _) (K70 a b es n1 v2.toArray n2 dd dd2 sl sl2) ⟨h1,h2,hq⟩)
  (λ_ hq=>wpAny_isSame_ref_other hne h1 h2 (by simp) hq) (.inr hu') ⟨.bl true,H,I,rfl,q⟩
end
end L2
namespace L2
open PySem PySem.Spec PyProof.Rows
section
variable {P:ã}{w:ü}{A:À3}{E:Ä->Æ->Prop}{s:Æ}
abbrev eT1(h:õ)(l:È):Heap:=h.push { cls:=.type "tuple_iterator",data:=.fields #[.ref l,.int 0 0] }
abbrev eT2(h:õ)(l:È):Heap:=(eT1 h l).push { cls:=.type "enumerate",data:=.fields #[.none,.bool false,.ref h.objs.size,rawInt 0,.none,.none] }
theorem X70(l:È)(xs:Array Ä) :
  Meets (Å6.«enumerate.__new__» ⟨[.type "enumerate",.ref l],[]⟩) (λ_ R s=>s.heap.IsTuple l xs/\R (.ok (.ret (.ref (eT1 s.heap l).objs.size))) { s with heap:=eT2 s.heap l }) :=
 .of_wp λP w A R s h=>by
  obtain⟨hp,g,d,tk,os⟩:=s;obtain⟨hl,h⟩:=h;have hsub:=sub_enumerate;have hL1:Ð9 (Æ.heap ⟨hp,g,d,tk,os⟩) l xs:=hl
  wp_walk;refine wpAny_stack_any λq=>Ê ?_;split
  ·rename_i c _ _ _ _ _;cases (c == Â9 "enumerate") <;> (wp_walk using É6 hL1) <;> exact⟨_,rfl,h⟩
  ·wp_walk using É6 hL1
   exact⟨_,rfl,h⟩
theorem j41(hl:s.heap.IsTuple l xs)
  (h:∀ h',IsEnum h' (s.heap.objs.size + 1) s.heap.objs.size 0 .none->h'.IsTupleIter s.heap.objs.size l 0->(∀ c o,s.heap.get? c=some o->h'.get? c=some o)->Q (.ref (s.heap.objs.size + 1)) { s with heap:=h' }) :
  Ñ (Ü P w) A (call (.type "enumerate") [.ref l]) Q E s:=by
 refine callType_new F.called_enumerate (-0) (F.typeCall_enumerate_1 _) (F.newCall_enumerate_1 _) (λobj=>F.args_object_init_2 obj _) F.entry_enumerate_new (X70 l xs) ⟨hl,?_⟩
 have n1:(eT1 s.heap l).objs.size=s.heap.objs.size + 1:=Í5 ..;have g2:(eT2 s.heap l).get? (eT1 s.heap l).objs.size=some _:=Ï _ rfl;have g1:(eT2 s.heap l).get? s.heap.objs.size=some _:=Ã _ (Ï _ rfl);show _/\_;rw[n1] at g2;rw[n1];exact⟨⟨_,g2,rfl⟩,h _ g2 ⟨_,g1,rfl,rfl⟩ λc o q=>Ã _ (Ã _ q)⟩
theorem q91(hh:A.handled=none){it l:È}{xs:Array Ä}(n:l≠it):Draws P w A it [it,l] xs.size (λi x=>xs[i]?=some x) (λi h=>h.IsTupleIter it l i/\h.IsTuple l xs) where
 live:=λi h q=>by obtain⟨⟨o,e,_⟩,_⟩:=q;exact⟨o,e⟩
 frame:=λi h h' q k=>by
  obtain⟨⟨o,e,r⟩,⟨o',e',r'⟩⟩:=q;exact⟨⟨o,k it (by simp) _ e,r⟩,⟨o',k l (by simp) _ e',r'⟩⟩
 item:=λi s Q E hi q k=>q40 q.1 q.2 (x:=xs[i]) (by simp[hi]) λh' h1 h2=>k _ h' s.toks (by simp[hi]) ⟨h1,q.2.extBut h2.extBut n⟩ h2
 done:=λs Q E q k=>m50 hh q.1 q.2 (by simp) λh' e h1 h2=>k h' e h1 h2
end
theorem M91{P:ã}{w:ü}{A:À3}(b:Bool)(hh:A.handled=none){it l:È}{xs:Array Ä}(n:l≠it):Draws P w A it [it,l] xs.size (λi x=>xs[i]?=some x) (λi h=>R80 b h it l i/\E31 b h l xs):=match b with
 |true=>Draws.list hh it l n xs|false=>q91 hh n
def Ite(b:Bool)(K:Â)(a:È):It :=
 ⟨λi H=>∃ xs x,SqB b K H a xs/\xs[i]?=some x,
  λi H v H'=>∃ T,v=.ref T/\H T=none/\∀ xs x,SqB b K H a xs->xs[i]?=some x->H'=upd H T (.tup [.int i,x]),
  λi H=>∃ xs,SqB b K H a xs/\xs.length=i⟩
theorem r01{P:ã}{w:ü}{K:Â}{es:List Ð}{ek:Nat}{ep:Pos}{a e it:È}{b:Bool}(h1:e≠it)(h2:a≠e)(h3:a≠it) :
  Turn P w K (.Tuple es ek ep) (Ite b K a) [e,it] e (λi h=>(∃ old,IsEnum h e it i old)/\R80 b h it a i) where
 mem:=by simp
 obj:=λi h st c hc=>by
  obtain⟨⟨old,he⟩,st⟩:=st;obtain⟨o1,g1,d1,_⟩:=st.obj;simp only[Á1,Â5,or_false] at hc;rcases hc with rfl | rfl
  ·exact⟨_,he,λv e=>by cases e⟩
  ·exact⟨_,g1,d1⟩
 keep:=λi h h' st k=>by
  obtain⟨⟨old,he⟩,st⟩:=st;obtain⟨o1,g1,_,r1⟩:=st.obj;exact⟨⟨old,k e (by simp) _ he⟩,r1 h' (k it (by simp) _ g1)⟩
 item:=by
  intro X hP hw hK hc i pins s σ H E I hf st hg;subst hP hw hK;obtain⟨xs,x,hq,hx⟩:=hg;obtain⟨v1,rv,p1,_,z1⟩:=I.E41 hq;obtain⟨u,hu,ru⟩:=rv.get hx;obtain⟨⟨old,he⟩,hi⟩:=st;have hl:i < v1.toArray.size:=by simpa using (ä.mp hu).1
  refine wpAny_pyNext_enum_itemD (M91 (A:=X.A.in1) b (by exact I.ok.hd hc) h3) he ⟨hi,p1⟩ hl h1 (by simp[h1,h2.symm]) λy g1 tk hy ge gs gT sz kp=>⟨_,rfl,?_⟩
  have hy':v1[i]?=some y:=by simpa using hy
  rw[hu] at hy';cases hy';refine wpAny_letOwnedTupleGo_enum (s:={ s with heap:=g1,toks:=tk + 1 }) ge λg2 ge2 sb=>?_;have hT:H s.heap.objs.size=none:=I.hok.fresh (Ì _);have kall:∀ c o,c ∉ [e,it]->s.heap.get? c=some o->g2.get? c=some o:=λc o hc q=>by
   simp only[Á1,Â5,or_false,not_or] at hc;exact sb.extBut _ _ hc.1 (kp c o hc.1 hc.2 q)
  have I2:Inv X pins σ H { s with heap:=g2,toks:=tk + 1 }:=I.J80 (t':=tk + 1) hf kall;have fT:b21 X pins H s.heap.objs.size:=I.i01 (Ì _) hT;have gT2:g2.get? s.heap.objs.size=some { cls:=.type "tuple",data:=.seq #[.int i tk,u] }:=sb.extBut _ _ (λq=>ÿ _ (by have:=â he;rw[← q] at this;exact this)) gT
  have I3:Inv X pins σ (upd H s.heap.objs.size (.tup [.int i,x])) { s with heap:=g2,toks:=tk + 1 }:=I2.E01 fT I.sz (I2.hok.M51 hT (its:=[.int i tk,u]) (.cons ⟨_,rfl⟩ (.cons ru .nil)) (by show 2<=sizeLine;rw[Á4];decide) ⟨_,gT2,rfl,_,rfl⟩)
  refine⟨.ref s.heap.objs.size,_,I3,rfl,⟨_,rfl,hT,λxs' x' e1 e2=>?_⟩,⟨⟨_,ge2⟩,by obtain⟨o,q1,_,q2⟩:=gs.1.obj;exact q2 _ (sb.extBut _ _ h1.symm q1)⟩,λc hc=>?_⟩
  ·rw[z1 _ e1] at e2;rw[hx] at e2;cases e2;rfl
  ·rw[a30]
   ·exact(hf c hc).1
   ·intro q;simp only[Á1,Â5,or_false] at hc;rcases hc with hc | hc
    ·exact ÿ _ (by have:=â he;rw[← hc,q] at this;exact this)
    ·obtain⟨o,ho,_⟩:=R80.obj hi;exact ÿ _ (by have:=â ho;rw[← hc,q] at this;exact this)
 done:=by
  intro X hP hw hK hc i pins s σ H E I hf st hg;subst hP hw hK;obtain⟨xs,hq,rfl⟩:=hg;obtain⟨v1,rv,p1,_,z1⟩:=I.E41 hq;obtain⟨⟨old,he⟩,hi⟩:=st;refine wpAny_pyNext_enum_endD (M91 (A:=X.A.in1) (xs:=v1.toArray) b (by exact I.ok.hd hc) h3) he ⟨by rw[show v1.toArray.size=xs.length by simpa using rv.length.symm];exact hi,p1⟩ λg kp=>⟨rfl,I.J80 (t':=s.toks) hf λc o hcn q=>?_⟩
  simp only[Á1,Â5,or_false,not_or] at hcn;exact kp c o hcn.2 q
 self:=λ_ _ _ _ _ st h=>by obtain⟨⟨_,he⟩,_⟩:=st;exact wpAny_pyIter_enum he h
def x02(K:Â)(ta:TA):TI:=λσ H R=>ta σ H λvs H1=>∃ b a,vs=[.ref a]/\(∃ xs,SqB b K H1 a xs)/\R (Ite b K a) H1
theorem j51(hl:E31 b s.heap l xs)
  (h:∀ h',IsEnum h' (s.heap.objs.size + 1) s.heap.objs.size 0 .none->R80 b h' s.heap.objs.size l 0->(∀ c o,s.heap.get? c=some o->h'.get? c=some o)->Q (.ref (s.heap.objs.size + 1)) { s with heap:=h' }) :
  Ñ (Ü P w) A (call (.type "enumerate") [.ref l]) Q E s:=match b,hl,h with
 |true,hl,h=>call_enumerate_list hl λh' a b _ c=>h h' a b c|false,hl,h=>j41 hl h
theorem r11:í "enumerate"=some (.type "enumerate"):=by decide +kernel
theorem T91{X:Cx}{a:Ð}{es:List Ð}{ek:Nat}{ep:Pos}{ta:TA}{p pos:Pos}(hg:Gl X "enumerate")(hm:X.mg "enumerate"=none)(ha:PA X [a] ta)(hs:ý [a] X.env=[(false,eval a X.env)]:=by rfl) :
  PI X (.Tuple es ek ep) (.Call (.Name "enumerate" p) [a] [] pos) (x02 X.K ta):=by
 intro pins s σ H R I h;refine Call_ (u90 I hg hm r11 (À4 (thn (ha pos pins s σ H _ I h) λus s1 ⟨vs,H1,I1,r1,q1⟩=>?_) (by rw[hs];rfl) (by rfl)))
 obtain⟨b,l1,e,⟨xs,hq1⟩,q⟩:=q1;subst e;obtain⟨u,rfl,r⟩:=vals1 r1;cases r;obtain⟨v1,rv1,p1,a1,_⟩:=I1.E41 hq1;refine j51 p1 λh' he h1 kp=>wpAny_pyIter_enum (s:={ s1 with heap:=h' }) he ?_;refine⟨_,[s1.heap.objs.size + 1,s1.heap.objs.size],_,_,H1,rfl,I1.kept (t':=s1.toks) kp,r01 (Nat.succ_ne_self _) (ê (Ë3 a1)) (ê a1),⟨⟨_,he⟩,h1⟩,λc hc=>?_,q⟩;have hc':s1.heap.objs.size<=c:=by
  simp only[Á1,Â5,or_false] at hc;rcases hc with rfl | rfl
  ·exact È0 _ 1
  ·exact Ì _
 exact I1.i01 hc' (I1.hok.fresh hc')
end L2
namespace HT
open PySem PySem.W PyProof.Rows
set_option maxRecDepth 100000
section
variable {P:ã}{w:ü}{A:À3}{E:Ä->Æ->Prop}{s:Æ}
theorem K80{a b c:Int}{n:Nat}(hh:A.handled=none)(hr:Ò8 s.heap r a b c t u v)(hs:Ï7 a b c=true)(hn:Â7 a b c=n)(hl:n<=2 ^ 24)
  (hQ:∀ (h':õ) (tk:Nat) (acc:Array Ä),(∀ b o,s.heap.get? b=some o->h'.get? b=some o)->s.heap.objs.size<=h'.objs.size->ItemsOf (λi v=>∃ t,v=.int (a + i * c) t) acc n->Q acc.toList { s with heap:=h',toks:=tk }):Ñ (Ü P w) A (collect (.ref r)) Q E s:=by
 unfold collect;refine Á (wpAny_runValue (Í7 PySem.F.entry_proto_collect ?_));rw[Ñ3 PySem.F.plain_proto_collect _];show Ñ _ A.in1 (newList [] >>= λl=>again (.builtin "list.__iadd__" ⟨[l,.ref r],[]⟩)) _ _ s;refine Á (ò (Ê ⟨plainId_quiet Ú9 _,Í7 PySem.F.entry_list_iadd ?_⟩));rw[Ñ3 Ú9 _];show Ñ _ A.in1 (Ê0 (.ref s.heap.objs.size) (.ref r) (.ref s.heap.objs.size)) _ _ { s with heap:=s.heap.push (Ã0 "list" #[] 0) };have hS:(s.heap.push (Ã0 "list" #[] 0)).get? s.heap.objs.size=some { cls:=.type "list",data:=.seq #[] 0 }:=Ï _ rfl;refine Ä4 (wpAny_extend_range (A:=A) (s:={ s with heap:=s.heap.push (Ã0 "list" #[] 0) }) (R:=λx s'=>x=.ok (.ret (.ref s.heap.objs.size))/\∃ h' tk acc c',s'={ s with heap:=h',toks:=tk }/\(∀ b o,s.heap.get? b=some o->h'.get? b=some o)/\h'.get? s.heap.objs.size=some { cls:=.type "list",dict:=none,data:=.seq acc c',slots:=#[] }/\ItemsOf (λi v=>∃ t,v=.int (a + i * c) t) acc n) hh (Ã _ hr) hs hn hl _ (.ref s.heap.objs.size) 0 hS λh' tk acc c' hk hS' hi=>⟨rfl,h',tk,acc,c',rfl,λb o e=>hk b o (ê (â e)) (Ã _ e),hS',hi⟩) (λfin s' h=>?_) λe s' h=>?_
 ·have go:∀ s',(∃ h' tk acc c',s'={ s with heap:=h',toks:=tk }/\(∀ b o,s.heap.get? b=some o->h'.get? b=some o)/\h'.get? s.heap.objs.size=some { cls:=.type "list",dict:=none,data:=.seq acc c',slots:=#[] }/\ItemsOf (λi v=>∃ t,v=.int (a + i * c) t) acc n)->Ñ (Ü P w) A (match Å3 s.heap.objs.size with
   |Å3 a=>do
    match (← load a).data with
     |Data.seq xs _=>pure xs.toList|_=>unsupported "internal:collect"
   |_=>unsupported "internal:collect") Q E s':=λs' ⟨h',tk,acc,c',e,hk,hS',hi⟩=>by
   subst e;show Ñ _ A (load s.heap.objs.size >>= _) _ _ _;exact Á (wpAny_load hS' (Ê (hQ h' tk acc hk (Ç5 (â hS')) hi)))
  cases fin with
  |done f =>
   obtain⟨e,h⟩:=h;cases e;exact go _ h
  |again c'=>exact⟨h.1,Ò6 h.2 λx s'' hx=>by obtain⟨rfl,hx⟩:=hx;exact go _ hx⟩
 ·exact absurd h.1 (by simp)
open AutoSeq1 (wpAny_loadPart')
theorem D70{a b c:Int}{n:Nat}(hh:A.handled=none)(hr:Ò8 s.heap r a b c t u v)(hs:Ï7 a b c=true)(hn:Â7 a b c=n)(hl:n<=200000)
  (hQ:∀ (h':õ) (tk:Nat) (acc:Array Ä),(∀ b o,s.heap.get? b=some o->h'.get? b=some o)->s.heap.objs.size<=h'.objs.size->ItemsOf (λi v=>∃ t,v=.int (a + i * c) t) acc n->Q (.ref h'.objs.size) { s with heap:=h'.push { cls:=.type "tuple",data:=.seq acc },toks:=tk }) :
  Ù8 (Ü P w) A (.call (.builtin "tuple.__new__") ⟨[.type "tuple",.ref r],[]⟩) (wants Q E) s:=by
 refine codeAny_of_tree ?_;show Ñ _ A.in1 (do checkBuiltinCall "tuple.__new__" ⟨[.type "tuple",.ref r],[]⟩;again (.builtin "tuple.__new__" ⟨[.type "tuple",.ref r],[]⟩)) _ _ s;refine Á (wpAny_of_eq (PySem.F.newCall_tuple_1 _) (Ê ⟨plainId_quiet Ú8 _,Í7 PySem.F.entry_tuple_new ?_⟩));rw[Ñ3 Ú8 _];have k1:=sub_tuple_self;have k2:=init_tuple_lookup;have k3:=madeHere_tuple;have k4:s.TypeIs (.ref r) "range":=⟨_,hr,rfl⟩
 wp_walk using Ê3 k4,K80 (n:=n) (show A.in1.handled=none from hh) hr hs hn ∅
 intro h' tk acc hk hz hi;show Ñ _ _ (Å0 acc.toList.toArray >>= λv=>ret v) _ _ _;unfold Å0;rw[Î3];refine Á (ò (Ê (hQ h' tk acc hk hz hi)) (by show acc.size<=_;rw[hi.1,Á4];omega))
theorem tuple_range{a b c:Int}{n:Nat}(hh:A.handled=none)(hr:Ò8 s.heap r a b c t u v)(hs:Ï7 a b c=true)(hn:Â7 a b c=n)(hl:n<=200000)
  (hQ:∀ (h':õ) (tk:Nat) (acc:Array Ä),(∀ b o,s.heap.get? b=some o->h'.get? b=some o)->s.heap.objs.size<=h'.objs.size->ItemsOf (λi v=>∃ t,v=.int (a + i * c) t) acc n->Q (.ref h'.objs.size) { s with heap:=h'.push { cls:=.type "tuple",data:=.seq acc },toks:=tk }):Ñ (Ü P w) A (call (.type "tuple") [.ref r]) Q E s:=by
 refine callType_codes (Q₁:=λobj s₁=>s₁.TypeIs obj "tuple"/\Q obj s₁) Ñ0 (PySem.F.typeCall_tuple_1 _) PySem.F.entry_object_init (D70 hh hr hs hn hl λh' tk acc hk hz hi=>⟨⟨_,Ï _ rfl,rfl⟩,hQ h' tk acc hk hz hi⟩) λobj s₁ h₁=>?_;exact⟨h₁.1,PySem.F.args_object_init_2 obj _,object_init_meets Ñ0.init.lookup Ñ0.made (-0) P w A.in1 _ s₁ ⟨h₁.1,rfl,h₁.2⟩⟩
end
end HT
namespace L2
open PySem PySem.Spec PyProof.Rows
theorem i80.there(x:i80 P w H h a o):∃ u,h.get? a=some u:=by
 cases o with
 |lst xs=>obtain⟨_,_,_,_,e⟩:=x;exact⟨_,e⟩
 |tup xs=>obtain⟨_,_,_,o,e,_⟩:=x;exact⟨_,e⟩
 |dK kvs=>obtain⟨_,_,_,_,o,_,_,e,_⟩:=x;exact⟨_,e⟩
 |dT kvs=>obtain⟨_,_,_,_,o,_,_,e,_⟩:=x;exact⟨_,e⟩
 |set S n=>obtain⟨o,_,_,_,e,_⟩:=x;exact⟨_,e⟩
 |ins C dx fs=>obtain⟨_,_,_,e,_⟩:=x;exact⟨_,e⟩
 |own y=>obtain⟨_,e⟩:=x;exact⟨_,e⟩
 |xd fs=>obtain⟨_,⟨_,_,_,e,_⟩,_⟩:=x;exact⟨_,e⟩
 |rng lo hi=>obtain⟨_,_,_,e⟩:=x;exact⟨_,e⟩
 |frz ob u=>obtain⟨e,_⟩:=x;exact⟨_,e⟩
 |tbl ps=>exact⟨_,(show h.get? a=some _ from x)⟩|met f y=>exact⟨_,(show h.get? a=some _ from x)⟩|ext φ=>obtain⟨_,⟨_,e⟩,_⟩:=x;exact⟨_,e⟩
def InB(B:õ)(fs:List È)(H':Hp)(h h':õ):Prop:=∀ b u,h'.get? b=some u->b ∉ fs->((∃ o,h.get? b=some o)∨H' b≠none)->B.get? b=some u
def CX1(P:ã)(w:ü):CXT:=λouter H s E e s'=>∃ (a:È) (cls a0:Ä) (H':Hp) (B:õ),e=.ref a/\s'.os=s.os/\Ò9 s'.gens/\Un (frs outer) [] H H' s.heap s'.heap/\HOk P w H' s'.heap /\
 õ.FlyingW B outer a cls a0 s'.heap/\H' a=none/\InB B (frs outer) H' s.heap s'.heap/\E cls (some a) H'
section
variable {X:Cx}{pins:List (È × Obj)}{σ:St}{H H':Hp}{s s':Æ}{B h'':õ}{a:È}{cls a0:Ä}{E:XK}
theorem r21(hS:X.stack=X.env::X.outer)(hx:X.ex=[])(hf:X.env.frame=some X.env.locals)(I:Inv X pins σ H s)(os:s'.os=s.os)(bare:Ò9 s'.gens)(un:Un (frs X.stack) [] H H' s.heap s'.heap)(hok:HOk X.prog X.w H' s'.heap)
  (bB:InB B (frs X.stack) H' s.heap s'.heap) (na:H' a=none) (fl:õ.FlyingW B X.outer a cls a0 h'') (sm:s'.heap.UpToSlots h'') (he:E cls (some a) H'):CX1 X.prog X.w X.outer X.H₀ X.s₀ E (.ref a) { s' with heap:=h'' }:=by
 have hfs:frs X.stack=X.env.locals::frs X.outer:=by rw[hS];unfold frs;rw[Á2,hf]
 have U1:=I.base;rw[hx] at U1;have U:Un (frs X.stack) [] X.H₀ H' X.s₀.heap s'.heap:=(U1.mono (λb hb=>by rw[hfs];exact Å _ hb) λb hb=>hb).trans un
 have nL:∀ b o,X.s₀.heap.get? b=some o->b ∉ frs X.outer->b ∉ frs X.stack:=λb o e hn hm=>by
  rw[hfs] at hm;rcases ß.mp hm with z | z
  ·exact absurd (â e) (by rw[z];exact Nat.not_lt.mpr I.ok.above)
  ·exact hn z
 have frN:∀ b∈frs X.stack,H' b=none:=λb hb=>by
  obtain⟨_,o,ho,_⟩:=I.stack.mem hb;exact un.free b o ho (I.W40 b hb) (by simp)
 have old:∀ b o,X.s₀.heap.get? b=some o->b ∉ frs X.outer->∃ u,s'.heap.get? b=some u/\B.get? b=some u:=λb o e hn=>by
  obtain⟨o1,e1⟩:=U1.there b o e (by simp)
  obtain⟨o2,e2⟩:=un.there b o1 e1 (by simp)
  exact⟨o2,e2,bB b o2 e2 (nL b o e hn) (.inl ⟨o1,e1⟩)⟩
 have trk:∀ b,H' b≠none->∃ u,s'.heap.get? b=some u/\B.get? b=some u:=λb hb=>by
  obtain⟨o,e⟩:=Ù4.mp hb;obtain⟨u,eu⟩:=(hok b o e).there;exact⟨u,eu,bB b u eu (λhm=>by rw[frN b hm] at e;cases e) (.inr hb)⟩
 refine⟨a,cls,a0,H',B,rfl,os.trans I.os,bare,⟨λb o e n hb _=>?_,λb o e n hb _=>?_,λb o e n hb=>U.free b o e n hb,λb o e _=>?_,U.tups,U.frzs,U.tbls⟩,λc o e=>?_,fl,na,λb u e hn hor=>?_,he⟩
 ·obtain⟨u,e1,e2⟩:=old b o e hb;have e3:=U.keep b o e n (nL b o e hb) (by simp)
  rw[e1] at e3;cases e3;exact fl.1 b _ e2
 ·obtain⟨sl,e1⟩:=U.slot b o e n (by rw[hfs];exact Å _ hb) (by simp)
  obtain⟨_,o',ho',hd⟩:=I.ok.C31.mem hb;rw[e] at ho';cases ho';obtain⟨sl',e2⟩:=sm b _ e1 hd;exact⟨sl',e2⟩
 ·by_cases hb:b∈frs X.outer
  ·obtain⟨_,o',ho',_⟩:=fl.2.2.1.mem hb;exact⟨o',ho'⟩
  ·obtain⟨u,_,e2⟩:=old b o e hb;exact⟨u,fl.1 b _ e2⟩
 ·refine(hok c o e).C71 (λb u hb q=>?_) (λ_ q=>q) λ_ _ q=>q;have hbn:H' b≠none:=by
   rcases hb with rfl | hb
   ·rw[e];exact λz=>nomatch z
   ·rw[hb];exact λz=>nomatch z
  obtain⟨u',e1,e2⟩:=trk b hbn;rw[q] at e1;cases e1;exact fl.1 b _ e2
 ·have:∃ u',B.get? b=some u':=by
   rcases hor with ⟨o,ho⟩ | hor
   ·obtain⟨u',_,e2⟩:=old b o ho hn;exact⟨u',e2⟩
   ·obtain⟨u',_,e2⟩:=trk b hor;exact⟨u',e2⟩
  obtain⟨u',e2⟩:=this;have e3:=fl.1 b _ e2;rw[e] at e3;cases e3;exact e2
end
section
variable {P:ã}{w:ü}{K:Â}{mg:Str->Option Ä}{base:õ}{N:List Str}{qual:Str}{scope:Á3}{f:È}{cd:Ä}{A:À3}{outer:List Env}{s₀:Æ}{H₀:Hp}{E:XK}
theorem r31(I:Inv (Q90 (CX1 P w) P w K mg base N qual scope f cd A outer s₀ H₀ E) pins σ H s)(hx:õ.MadeExcOf s.heap h' e cls vs)(he:E cls (some e) H) :
  (Q90 (CX1 P w) P w K mg base N qual scope f cd A outer s₀ H₀ E).xe (.ref e) { s with heap:=h' }:=by
 have hin:∀ env∈(Q90 (CX1 P w) P w K mg base N qual scope f cd A outer s₀ H₀ E).stack,∀ a,env.frame=some a->a∈frs (Q90 (CX1 P w) P w K mg base N qual scope f cd A outer s₀ H₀ E).stack:=λenv he a ha=>Ô5.mpr ⟨env,he,ha⟩;have kB:(hideAll s.heap (frs (Q90 (CX1 P w) P w K mg base N qual scope f cd A outer s₀ H₀ E).stack)).StaysIn s.heap:=λb o q=>of_hideAll _ q;show Ñ _ _ (leaving _ _) _ _ _;refine wpAny_leaves_madeW (base:=hideAll s.heap (frs (Q90 (CX1 P w) P w K mg base N qual scope f cd A outer s₀ H₀ E).stack)) (h:=s.heap) I.ok.frames rfl kB (PySem.W.funFrames_hide I.stack hin) hx λh'' t fl _ _ sm=>?_;have na:H e=none:=by
  cases z:H e with
  |none=>rfl|some o=>obtain⟨u,eu⟩:=(I.hok e o z).there;rw[hx.new] at eu;cases eu
 refine r21 (X:=Q90 (CX1 P w) P w K mg base N qual scope f cd A outer s₀ H₀ E) (s':={ s with heap:=h' }) rfl rfl rfl I rfl I.bare (Un.kept hx.keeps) (I.hok.kept hx.keeps) (λb u q hn hor=>?_) na fl sm he;have:∃ o,s.heap.get? b=some o:=by
  rcases hor with hor | hor
  ·exact hor
  ·obtain⟨o,z⟩:=Ù4.mp hor;exact(I.hok b o z).there
 obtain⟨o,ho⟩:=this;have:=hx.keeps b o ho;have q':h'.get? b=some u:=q;rw[this] at q';cases q';exact hideAll_get _ ho hn
theorem x12:Passes (CX1 P w) (Q90 (CX1 P w) P w K mg base N qual scope f cd A outer s₀ H₀ E) E:=by
 intro pins σ H s e s' I h;obtain⟨a,cls,a0,H',B,rfl,os,bare,un,hok,fl,na,bB,he⟩:=h;show Ñ _ _ (leaving _ _) _ _ _;refine wpAny_leaves_onW I.ok.frames rfl fl λh'' fl' sm=>?_;exact r21 (X:=Q90 (CX1 P w) P w K mg base N qual scope f cd A outer s₀ H₀ E) (s':=s') rfl rfl rfl I os bare un hok bB na fl' sm he
end
theorem U01{K:Â}{h:õ}{C:È}{bmB:List Ä}{newId:String}(KX:K.In h)(hq:Í8 K C bmB newId=true) :
  ∃ bm N nm q bs hdct sn sub ab col dd k0 k1 k2 k3 k5 mN,h.get? C=some (excClassObj nm q C N bs bm hdct sn sub ab col dd k0 k1 k2 k3 k5 newId)/\h.Ns N mN/\mN "__init__"=none/\OwnTail h bmB bm:=by
 unfold Í8 at hq;split at hq
 case h_2=>cases hq
 case h_1 dd cd sl ho =>
  split at hq
  case h_2=>cases hq
  case h_1 C' bm k0 k1 k2 k3 n k5 hm hs =>
   simp only[À,beq_iff_eq,ø] at hq;obtain⟨⟨⟨⟨⟨z1,z2⟩,hdel⟩,ht⟩,hok⟩,hni⟩:=hq;subst z1 z2;cases cd with
   |mk nm bs mro ns qn hd sn sub ab col del =>
    dsimp only at hm hdel hok hni;subst hm hdel;have esl:sl=#[k0,k1,k2,k3,some (.builtin n),k5]:=by cases sl with | mk l=>simp only at hs;rw[hs]
    subst esl;refine⟨bm,ns,nm,qn,bs,hd,sn,sub,ab,col,dd,k0,k1,k2,k3,k5,h.nsMap ns,KX _ _ ho,?_,PySem.W.nsMap_none_of_in KX hok hni,PySem.W.tail_of_in KX ht⟩;exact .of_isNs (PySem.W.isNs_of_in KX hok)
def K90(X:Cx)(E:XK):Prop:=∀ (pins:List (È × Obj)) (σ:St) (H:Hp) (s:Æ) (h':õ) (e:È) (cls:Ä) (vs:List Ä),Inv X pins σ H s->õ.MadeExcOf s.heap h' e cls vs->E cls (some e) H->X.xe (.ref e) { s with heap:=h' }
theorem r41{P:ã}{w:ü}{K:Â}{mg:Str->Option Ä}{base:õ}{N:List Str}{qual:Str}{scope:Á3}{f:È}{cd:Ä}{A:À3}{outer:List Env}{s₀:Æ}{H₀:Hp}{E:XK} :
  K90 (Q90 (CX1 P w) P w K mg base N qual scope f cd A outer s₀ H₀ E) E:=λ_ _ _ _ _ _ _ _ I hx he=>r31 I hx he
def h52(E:XK)(C:È)(t:TA):TS:=λ_ σ H=>t σ H λvs H1=>vs.length<=sizeLine/\∀ e,H1 e=none->E (.ref C) (some e) H1
section
variable {X:Cx}{x:Str}{C:È}{E:XK}{e₀:Ð}{rest:List Ð}{t:TA}{np cpos pos:Pos}
theorem G41(hE:K90 X E)(hc:X.calm=true)(hg:Gl X x)(hm:X.mg x=some (.ref C))(hq:Í8 X.K C [.type "ValueError",.type "Exception",.type "BaseException",.type "object"] "ValueError.__new__"=true)(ha:PA X (e₀::rest) t)
  (hdb:(x == ("__debug__":Str))=false:=by decide) (he:ý (e₀::rest) X.env=(false,eval e₀ X.env)::ý rest X.env:=by rfl) (hpl:(Ò7 cpos (ý rest X.env)).any (·.1)=false:=by rfl) :
  PS X (.Raise (some (.Call (.Name x np) (e₀::rest) [] cpos)) none pos) (h52 E C t):=by
 intro pins s σ H D I h;obtain⟨bm,N,nm,q,bs,hdct,sn,sub,ab,col,dd,k0,k1,k2,k3,k5,mN,hC,hN,hni,T⟩:=U01 I.ok.mod.kin hq;refine wpAny_Raise_call_subT (C:=C) (nm:=nm) (q:=q) (N:=N) (bs:=bs) (bm:=bm) (hdct:=hdct) (sn:=sn) (sub:=sub) (ab:=ab) (col:=col) (dd:=dd) (k0:=k0) (k1:=k1) (k2:=k2) (k3:=k3) (k5:=k5)
  Ø8 (mN:=mN) (T.hasType Ø8.hasBase) (I.ok.hd hc) (by rw[he];exact hpl) hni (W50 I hg hm ⟨rfl,?_⟩ hdb)
 have k:=ha cpos pins s σ H _ I h;rw[he] at k ⊢;refine Ý5 (thn k λus s2 ⟨vs,H2,I2,r,z,q⟩=>⟨rfl,by show us.length<=_;rw[← r.length];exact z,I2.bk _ _ hC,hN.keeps I2.bk,T.keeps I2.bk,λh' e hx=>?_⟩)
 refine hE pins σ H2 s2 h' e _ us I2 hx (q e ?_);cases z:H2 e with
 |none=>rfl|some o=>obtain⟨u,eu⟩:=(I2.hok e o z).there;rw[hx.new] at eu;cases eu
end
open PySem PySem.Spec PyProof.Rows PySem.W PySem.Builtin PySem.Builtin.ObjectAttr PySem.Builtin.Getset_descriptor
end L2
namespace L2
open PySem PySem.Spec PyProof.Rows
def recAt(c:È)(qual:Str):õ->Prop:=λh=>h.CodeRec (.ref c) qual
def Tab(H:Hp)(P:È)(qual:Str):Prop:=∃ ps:Array Ä,H P=some (.tbl ps)/\TriplesOk ps.toList/\∀ pos c,codeAmong pos ps.toList=some c->∃ c',c=.ref c'/\H c'=some (.ext (recAt c' qual))
def BMain(mg:Str->Option Ä)(h:õ):Prop:=∃ bm ob,mg "__builtins__"=some (.ref bm)/\bm≠builtinsNs/\h.get? bm=some ob/\ob.cls=.type "module"/\ob.dict=some builtinsNs/\ob.data=.plain
theorem h62{P:ã}{w:ü}{X:Cx}:Passes (CX1 P w) X (λ_ _ _=>False):=λ_ _ _ _ _ _ _ h=>by
 obtain⟨_,_,_,_,_,_,_,_,_,_,_,_,_,e⟩:=h;exact e.elim
theorem Tab.same{H H':Hp}{P:È}{q:Str}(t:Tab H P q)(s:a40 H H'):Tab H' P q:=by
 obtain⟨ps,e,tr,h⟩:=t;refine⟨ps,s _ _ e,tr,λpos c hc=>?_⟩;obtain⟨c',e1,e2⟩:=h pos c hc;exact⟨c',e1,s _ _ e2⟩
def j61(kvs:List (Key × V))(k:Key):Option V:=(kvs.find? λkv=>decide (kv.1=k)).map (·.2)
theorem L00{a k:Key}{v:V}{r:List (Key × V)}:j61 ((a,v)::r) k=if a=k then some v else j61 r k:=by
 unfold j61;rw[List.find?_cons];by_cases h:a=k
 ·simp[h]
 ·simp[h]
theorem N01:∀ {kvs:List (Key × V)}{ws:List (Key × Ä)}{k:Key},KV kvs ws->(∀ v,j61 kvs k=some v->∃ u,Ù7 ws k=some u/\RelV v u)/\(j61 kvs k=none->Ù7 ws k=none)
 |_,_,_,.nil=>⟨λv h=>(by cases h),λ_=>rfl⟩
 |(a,v)::r,(b,u)::q,k,.cons ⟨e,hr⟩ t=>by
  have e:a=b:=e;subst e;have ih:=N01 (k:=k) t;rw[L00];have hv:Ù7 ((a,u)::q) k=if a=k then some u else Ù7 q k:=by
   unfold Ù7;rw[List.find?_cons];by_cases h:a=k
   ·simp[h]
   ·simp[h]
  rw[hv];by_cases h:a=k
  ·rw[if_pos h,if_pos h];exact⟨λw e=>(by cases e;exact⟨u,rfl,hr⟩),λe=>(by cases e)⟩
  ·rw[if_neg h,if_neg h];exact ih
theorem c31{α β:Type}{R:α->β->Prop}:∀ {a:List α}{b:List β}{c:List α}{d:List β},Ã4 R a b->Ã4 R c d->Ã4 R (a++c) (b++d)
 |_,_,_,_,.nil,h=>h|_,_,_,_,.cons r t,h=>.cons r (c31 t h)
theorem stored_new{ws:List (Key × Ä)}{k:Key}{w:Ä}(h:Ù7 ws k=none):stored ws k w=ws++[(k,w)]:=by
 unfold stored;rw[if_neg];intro hh;obtain⟨p,h1,h2⟩:=List.any_eq_true.mp hh;unfold Ù7 at h;rw[Option.map_eq_none_iff,List.find?_eq_none] at h;exact h p h1 h2
section
variable {X:Cx}
def h72:V->List V->Hp->VK->Prop:=λx vs H Q=>∃ d kvs i y,x=.ref d/\vs=[.int i,y]/\H d=some (.dK kvs)/\kvs.length < sizeLine/\(∀ v,j61 kvs (.inl i)=some v->Q v H)/\(j61 kvs (.inl i)=none->Q y (upd H d (.dK (kvs++[(.inl i,y)]))))
theorem U11:MtR X "dict.setdefault" h72:=by
 intro pins s σ H x vs v us Q I rx rv h;obtain⟨d,kvs,i,y,rfl,rfl,hH,hz,q1,q2⟩:=h;cases rx;cases rv with
 |cons ru rv =>
  obtain⟨w,rfl,rw'⟩:=Vals.one rv;obtain⟨t,rfl⟩:=ru;obtain⟨z,hs,ws,kv,dd⟩:kvs.length<=sizeLine/\(d == Ï2)=false/\∃ vs,KV kvs vs/\s.heap.DictOf (g50 X.prog X.w) d vs:=I.hok d _ hH;have hl:ws.length<=sizeLine:=by rw[← Î5 kv];exact z
  obtain⟨v1,v2⟩:=N01 (k:=.inl i) kv;refine call_meetsIn Ö1 dd.typeIs PySem.F.entry_dict_setdefault (PySem.F.args_dict_setdefault_3 _ _ _) (kt_meets_setdefault (g50 X.prog X.w) (k:=.inl i) d (by show Ä.isInt i (.int i t)=true;simp[Ä.isInt]) hs w) ⟨ws,dd,hl,λu hu=>?_,λhn h' dd' sb=>?_⟩
  ·cases e:j61 kvs (.inl i) with
   |none=>rw[v2 e] at hu;cases hu
   |some v =>
    obtain⟨u',h1,h2⟩:=v1 v e;rw[hu] at h1;cases h1;exact⟨v,H,I.tok _,h2,q1 v e⟩
  ·cases e:j61 kvs (.inl i) with
   |some v=>obtain⟨u',h1,_⟩:=v1 v e;rw[hn] at h1;cases h1
   |none =>
    rw[stored_new hn] at dd';have new:i80 X.prog X.w (upd H d (.dK (kvs++[(.inl i,y)]))) h' d (.dK (kvs++[(.inl i,y)])):=⟨by rw[À0];exact hz,hs,ws++[(.inl i,w)],c31 kv (.cons ⟨rfl,rw'⟩ .nil),dd'⟩
    exact⟨y,_,I.write (x:=d) (e:=d) (t':=s.toks + 1) (by rw[hH];trivial) (.inl rfl) (λb u hb e=>(sb.2 b hb).trans e) (by obtain⟨o,_,_,e,_⟩:=dd';exact⟨o,e⟩) new,rw',q2 e⟩
def Itv(d:È)(o:Obj)(kvs:List (Key × V)):It :=
 ⟨λi H=>H d=some (.frz o (.dK kvs))/\i < kvs.length,λi H x H'=>H'=H/\∃ k,kvs[i]?=some (k,x),λi H=>H d=some (.frz o (.dK kvs))/\i=kvs.length⟩
theorem c41{α β:Type}{R:α->β->Prop}:∀ {l:List α}{r:List β}{i:Nat}{b:β},Ã4 R l r->r[i]?=some b->∃ a,l[i]?=some a/\R a b
 |_,_,_,_,.nil,e=>by simp at e|_,_,0,_,.cons h _,e=>by cases e;exact⟨_,rfl,h⟩
 |_,_,i + 1,_,.cons _ t,e=>c41 (i:=i) t e
theorem N11{pins:List (È × Obj)}{σ:St}{H:Hp}{s:Æ}{d:È}{o:Obj}{kvs:List (Key × V)}{es:Array DictEntry}{ep:Nat}(I:Inv X pins σ H s)(h:H d=some (.frz o (.dK kvs)))(ho:o.data=.dict es ep):∃ ws,KV kvs ws/\s.heap.DictAt (knd:=g50 X.prog X.w) d ws ep:=by
 obtain⟨e,_,_,ws,kv,o',es',ep',e1,e2,e3,e4⟩:s.heap.get? d=some o/\kvs.length<=sizeLine/\(d == Ï2)=false/\∃ vs,KV kvs vs/\s.heap.DictOf (g50 X.prog X.w) d vs:=I.hok d _ h;rw[e] at e1;cases e1;rw[ho] at e3;cases e3;exact⟨ws,kv,o,es,e,e2,ho,e4⟩
theorem r51{P:ã}{w:ü}{K:Â}{tg:Ð}(d it:È)(o:Obj){es:Array DictEntry}{ep n:Nat}(ho:o.data=.dict es ep)(hne:d≠it)(kvs:List (Key × V))(hn:kvs.length=n):Turn P w K tg (Itv d o kvs) [it] it (λi h=>h.IsValIter it d i n ep) where
 mem:=by simp
 obj:=λi h st b hb=>by
  have e:b=it:=by simpa using hb
  subst e;obtain⟨o,e,c,dd⟩:=st;exact⟨o,e,λv z=>by rw[dd] at z;cases z⟩
 keep:=λi h h' ⟨ob,e,r⟩ k=>⟨ob,k it (by simp) ob e,r⟩
 item:=by
  intro X hP hw hK hc i pins s σ H E I hf st hg;subst hP hw hK;obtain⟨hg1,hg2⟩:=hg;obtain⟨ws,kv,da⟩:=N11 I hg1 ho;obtain⟨f0,f1,f2,f3,f4,f5⟩:=hf it (by simp)
  have hwl:ws.length=n:=by rw[← Î5 kv];exact hn
  subst hwl;have W:=Walks.dictValues (prog:=X.prog) (w:=X.w) (knd:=g50 X.prog X.w) (I.ok.hd hc) it d hne ws ep;refine W.item i s _ _ (by rw[← hn];exact hg2) ⟨st,da⟩ λv h' tk hv st' kk=>?_
  obtain⟨k,hv⟩:=hv;obtain⟨⟨k',x⟩,hx,e1,rx⟩:=c41 kv hv;have I1:Inv X pins σ H { s with heap:=h',toks:=tk }:=I.turned (λb o hb e=>kk b o (by simpa using hb) e) f0 f1 f3 f4 f5
  obtain⟨ob,e,c,dd⟩:=id st'.1;exact⟨v,rfl,D21 (s:={ s with heap:=h',toks:=tk }) e c dd (-0) ⟨x,H,I1,rx,⟨rfl,k',hx⟩,st'.1,λb hb=>(hf b hb).1⟩⟩
 done:=by
  intro X hP hw hK hc i pins s σ H E I hf st hg;subst hP hw hK;obtain⟨hg1,hg2⟩:=hg;obtain⟨ws,kv,da⟩:=N11 I hg1 ho;obtain⟨f0,f1,f2,f3,f4,f5⟩:=hf it (by simp)
  have hwl:ws.length=n:=by rw[← Î5 kv];exact hn
  subst hwl;have W:=Walks.dictValues (prog:=X.prog) (w:=X.w) (knd:=g50 X.prog X.w) (I.ok.hd hc) it d hne ws ep;rw[hg2,hn] at st;exact W.done s _ _ ⟨st,da⟩ λh' tk kk=>⟨rfl,I.turned (λb o hb e=>kk b o (by simpa using hb) e) f0 f1 f3 f4 f5⟩
 self:=λA i s Q E st h=>wpAny_pyIter_valiter st h
def x22:V->List V->Hp->VK->Prop:=λx vs H Q=>∃ d kvs,x=.ref d/\vs=[]/\H d=some (.dK kvs)/\∀ a,H a=none->Q (.ref a) (upd H a (.ext λh=>h.IsValuesView a d))
theorem U21:MtR X "dict.values" x22:=by
 intro pins s σ H x vs v us Q I rx rv h;obtain⟨d,kvs,rfl,rfl,hH,q⟩:=h;cases rx;cases rv;obtain⟨z,hs,ws,kv,dd⟩:kvs.length<=sizeLine/\(d == Ï2)=false/\∃ vs,KV kvs vs/\s.heap.DictOf (g50 X.prog X.w) d vs:=I.hok d _ hH;refine call_meetsIn Ú3 dd.typeIs PySem.F.entry_dict_values (PySem.F.args_dict_values_1 _) (meets_dict_values (g50 X.prog X.w) d hs) ⟨⟨ws,dd⟩,?_⟩;have hn:H s.heap.objs.size=none:=I.hok.fresh (Ì _);refine⟨.ref s.heap.objs.size,_,I.laid (t':=s.toks) (a:=s.heap.objs.size) (o:=.ext λh=>h.IsValuesView s.heap.objs.size d) (λb u e=>Ã _ e) (Ì _) ⟨⟨_,Ï _ rfl,rfl,rfl⟩,⟨_,Ï _ rfl⟩,λh1 h2 ⟨o,e,r⟩ k=>⟨o,k o e,r⟩⟩,rfl,q _ hn⟩
def x32(i:Nat):TI:=λσ H R=>∃ d kvs,σ[i]?=some (some (.ref d))/\H d=some (.dK kvs)/\∀ o H2,(∀ b u,b≠d->H b=some u->H2 b=some u)->H2 d=some (.frz o (.dK kvs))->R (Itv d o kvs) H2
theorem U31{i:Nat}{g:Str}{p apos cpos:Pos}{tg:Ð}(hv:PE X (.Name g p) (Q41 i))(hline:(apos.endLine == cpos.line)=true):PI X tg (.Call (.Attribute (.Name g p) "values" apos) [] [] cpos) (x32 i):=by
 intro pins s σ H R I h;obtain⟨d,kvs,h1,h2,q⟩:=h;refine thn ((g12 Û1 Ú3 PySem.F.type_dict_values U21 hv rfl hline) pins s σ H (λv H1=>∃ a,v=.ref a/\H a=none/\H1=upd H a (.ext λh=>h.IsValuesView a d)) I ⟨.ref d,h1,.inr (.inr (.inl ⟨rfl,.inl ⟨kvs,h2⟩⟩)),d,kvs,rfl,rfl,h2,λa ha=>⟨a,rfl,ha,rfl⟩⟩) λv s1 ⟨x,H1,I1,r1,a,e1,e2,e3⟩=>?_;subst e1 e3;cases r1;have hda:d≠a:=λz=>by subst z;rw[h2] at e2;cases e2
 have hd1:upd H a (.ext λh=>h.IsValuesView a d) d=some (.dK kvs):=by rw[a30 hda];exact h2
 obtain⟨vw,_⟩:=I1.hok a _ b50;obtain⟨z,hs,ws,kv,o,es,ep,f1,f2,f3,f4⟩:kvs.length<=sizeLine/\(d == Ï2)=false/\∃ vs,KV kvs vs/\s1.heap.DictOf (g50 X.prog X.w) d vs:=I1.hok d _ hd1;have da:s1.heap.DictAt (g50 X.prog X.w) d ws ep:=⟨o,es,f1,f2,f3,f4⟩;refine wpAny_pyIter_values vw da ?_;have I2:=I1.kept (t':=s1.toks) (h':=s1.heap.push { cls:=.type "dict_valueiterator",data:=.fields #[.ref d,.int 0 0,.int ws.length 0,.int ep 0] }) λb o e=>Ã _ e;have I3:=I2.write (x:=d) (e:=d) (o:=.frz o (.dK kvs)) (t':=s1.toks) (h':=s1.heap.push { cls:=.type "dict_valueiterator",data:=.fields #[.ref d,.int 0 0,.int ws.length 0,.int ep 0] }) (by rw[hd1];trivial) (.inl rfl) (λb u _ e=>e) ⟨o,Ã _ f1⟩ ⟨Ã _ f1,z,hs,ws,kv,o,es,ep,Ã _ f1,f2,f3,f4⟩
 have hdl:d < s1.heap.objs.size:=â f1;refine⟨s1.heap.objs.size,[s1.heap.objs.size],_,Itv d o kvs,_,rfl,I3,r51 d _ o f3 (ê hdl) kvs (Î5 kv),⟨_,Ï _ rfl,rfl,rfl⟩,λb hb=>?_,q o _ (λb u hb e=>?_) b50⟩
 ·have e:b=s1.heap.objs.size:=by simpa using hb
  subst e;refine I1.i01 (Ì _) ?_;rw[a30 (Ó2 hdl)];exact I1.hok.fresh (Ì _)
 ·rw[a30 hb,a30 (λz=>by subst z;rw[e] at e2;cases e2)]
  exact e
end
abbrev GT:=Int × List Int × È
def kvG(ts:List GT):List (Key × V):=ts.map λt=>(.inl t.1,.ref t.2.2)
def j71:List (Int × List Int)->Int->Int->List (Int × List Int)
 |[],m,p=>[(m,[p])]|g::r,m,p=>if g.1=m then(g.1,g.2++[p])::r else g::j71 r m p
def S20:List GT->Int->Int->È->List GT
 |[],m,p,q=>[(m,[p],q)]|t::r,m,p,q=>if t.1=m then(t.1,t.2.1++[p],t.2.2)::r else t::S20 r m p q
def gsT(ts:List GT):List (Int × List Int):=ts.map λt=>(t.1,t.2.1)
theorem N21:∀ (ts:List GT) (m p:Int) (q:È),gsT (S20 ts m p q)=j71 (gsT ts) m p
 |[],_,_,_=>rfl
 |t::r,m,p,q=>by
  unfold S20;show _=j71 ((t.1,t.2.1)::gsT r) m p;unfold j71;by_cases h:t.1=m
  ·rw[if_pos h,if_pos h];rfl
  ·rw[if_neg h,if_neg h];show(t.1,t.2.1)::gsT (S20 r m p q)=_;rw[N21 r m p q]
structure GOk(H:Hp)(ts:List GT):Prop where
 nd:(ts.map λt=>t.2.2).Nodup
 at_:∀ t∈ts,H t.2.2=some (.lst (t.2.1.map V.int))
theorem r61:∀ {ts:List GT}{m p:Int}{q:È},j61 (kvG ts) (.inl m)=none->S20 ts m p q=ts++[(m,[p],q)]
 |[],_,_,_,_=>rfl
 |t::r,m,p,q,h=>by
  have h:j61 ((.inl t.1,V.ref t.2.2)::kvG r) (.inl m)=none:=h;rw[L00] at h;unfold S20;by_cases e:t.1=m
  ·rw[if_pos (by rw[e])] at h;cases h
  ·rw[if_neg (λz=>e (Î9.inj z))] at h;rw[if_neg e,r61 h];rfl
theorem r71{H:Hp}:∀ {ts:List GT}{m p:Int}{q:È}{v:V},j61 (kvG ts) (.inl m)=some v->GOk H ts->∃ t∈ts,v=.ref t.2.2/\kvG (S20 ts m p q)=kvG ts/\(S20 ts m p q).map (λt=>t.2.2)=ts.map (λt=>t.2.2)/\GOk (upd H t.2.2 (.lst (t.2.1.map V.int++[.int p]))) (S20 ts m p q)
 |[],_,_,_,_,h,_=>by cases h
 |t::r,m,p,q,v,h,ok=>by
  have h:j61 ((.inl t.1,V.ref t.2.2)::kvG r) (.inl m)=some v:=h;rw[L00] at h;have nd:(t.2.2::r.map λt=>t.2.2).Nodup:=ok.nd;rw[Æ2] at nd;unfold S20;by_cases e:t.1=m
  ·rw[if_pos (by rw[e])] at h;cases h
   rw[if_pos e];refine⟨t,É,rfl,rfl,rfl,ok.nd,λu hu=>?_⟩;rcases ß.mp hu with rfl | hu
   ·show upd H t.2.2 _ t.2.2=_;rw[b50,À5];rfl
   ·rw[a30 (λ(z:u.2.2=t.2.2)=>nd.1 (by rw[← z];exact Ó7 hu))]
    exact ok.at_ u (Å _ hu)
  ·rw[if_neg (λz=>e (Î9.inj z))] at h;rw[if_neg e];obtain⟨u,h1,h2,h3,h4,h5⟩:=r71 (p:=p) (q:=q) h ⟨nd.2,λu hu=>ok.at_ u (Å _ hu)⟩;refine⟨u,Å _ h1,h2,?_,?_,?_,λw hw=>?_⟩
   ·show _::kvG (S20 r m p q)=_;rw[h3];rfl
   ·rw[Â0,h4];rfl
   ·rw[Â0,h4];exact ok.nd
   ·rcases ß.mp hw with rfl | hw
    ·rw[a30 (λ(z:w.2.2=u.2.2)=>nd.1 (by rw[z];exact Ó7 h1))]
     exact ok.at_ _ É
    ·exact h5.at_ w hw
structure GI(Hb:Hp)(d:Addr)(ts:List GT)(H:Hp):Prop where
 dic:H d=some (.dK (kvG ts))
 ok:GOk H ts
 new:∀ t∈ts,Hb t.2.2=none
 old:∀ b u,b≠d->Hb b=some u->H b=some u
section
variable {X:Cx}
abbrev x42(K:Â)(i j k:Nat):TE:=tBM K "list" o81 (tBM K "dict" h72 (Q41 i) (o21 (Q41 k) (o21 (F72 f52) f52))) (o21 (Q41 j) f52)
theorem U41{Hb H:Hp}{d:È}{ts:List GT}{σ:St}{i j k:Nat}{m p:Int}{Q:VK}(g:GI Hb d ts H)(hi:σ[i]?=some (some (.ref d)))(hj:σ[j]?=some (some (.int p)))(hk:σ[k]?=some (some (.int m)))
  (z1:ts.length < sizeLine) (z2:∀ t∈ts,t.2.1.length < sizeLine) (h:∀ q H',GI Hb d (S20 ts m p q) H'->Q .non H'):x42 X.K i j k σ H Q:=by
 refine⟨.ref d,hi,.inr (.inr (.inl ⟨rfl,.inl ⟨_,g.dic⟩⟩)),.int m,hk,by show 0<=sizeLine;exact Å4 _,λq hq=>?_⟩
 have dq:d≠q:=λz=>by have:=g.dic;rw[z,hq] at this;cases this
 have d1:upd H q (.lst []) d=some (.dK (kvG ts)):=by rw[a30 dq];exact g.dic
 have tq:∀ t∈ts,t.2.2≠q:=λt ht z=>by have:=g.ok.at_ t ht;rw[z,hq] at this;cases this
 have td:∀ t∈ts,d≠t.2.2:=λt ht z=>by have:=g.ok.at_ t ht;rw[← z,g.dic] at this;cases this
 have bq:∀ b u,b≠d->Hb b=some u->b≠q:=λb u n e z=>by have:=g.old b u n e;rw[z,hq] at this;cases this
 have ok1:GOk (upd H q (.lst [])) ts:=⟨g.ok.nd,λt ht=>by rw[a30 (tq t ht)];exact g.ok.at_ t ht⟩
 refine⟨d,kvG ts,m,.ref q,rfl,rfl,d1,by unfold kvG;rw[Ç];exact z1,λv hv=>?_,λhv=>?_⟩
 ·obtain⟨t,ht,rfl,h3,h4,h5⟩:=r71 (p:=p) (q:=q) hv ok1;refine⟨.inl ⟨rfl,_,SqL.of (ok1.at_ t ht)⟩,.int p,hj,t.2.2,_,_,rfl,rfl,ok1.at_ t ht,by rw[Ç];exact z2 t ht,h q _ ⟨?_,h5,λw hw=>?_,λb u n e=>?_⟩⟩
  ·rw[a30 (td t ht),h3];exact d1
  ·have:w.2.2∈ts.map λt=>t.2.2:=by rw[← h4];exact Ó7 hw
   obtain⟨y,hy,e⟩:=Ø.mp this;rw[← e];exact g.new y hy
  ·rw[a30 (λz=>by have:=g.new t ht;rw[← z,e] at this;cases this),a30 (bq b u n e)]
   exact g.old b u n e
 ·have l1:upd (upd H q (.lst [])) d (.dK (kvG ts++[(.inl m,.ref q)])) q=some (.lst []):=by rw[a30 dq.symm,b50]
  refine⟨.inl ⟨rfl,_,SqL.of l1⟩,.int p,hj,q,[],_,rfl,rfl,l1,by show 0 < sizeLine;rw[Á4];decide,h q _ ?_⟩
  rw[r61 hv];refine⟨?_,⟨?_,λt ht=>?_⟩,λt ht=>?_,λb u n e=>?_⟩
  ·rw[a30 dq,b50];unfold kvG;rw[À5];rfl
  ·rw[À5,List.nodup_append];refine⟨g.ok.nd,by simp,λa ha b hb=>?_⟩
   have e:b=q:=by simpa using hb
   obtain⟨t,ht,rfl⟩:=Ø.mp ha;rw[e];exact tq t ht
  ·rcases Á0.mp ht with ht | ht
   ·rw[a30 (tq t ht),a30 (td t ht).symm];exact ok1.at_ t ht
   ·have e:t=(m,[p],q):=by simpa using ht
    subst e;exact b50
  ·rcases Á0.mp ht with ht | ht
   ·exact g.new t ht
   ·have e:t=(m,[p],q):=by simpa using ht
    subst e;cases e:Hb q with
    |none=>rfl|some u=>have:=g.old q u dq.symm e;rw[hq] at this;cases this
  ·rw[a30 (bq b u n e),a30 n,a30 (bq b u n e)];exact g.old b u n e
structure GE(Hb:Hp)(d:Addr)(o:Obj)(ts:List GT)(n:Nat)(ys:List V)(H:Hp):Prop where
 dic:H d=some (.frz o (.dK (kvG ts)))
 ok:GOk H ts
 old:∀ b u,b≠d->Hb b=some u->H b=some u
 len:ys.length=n
 tup:∀ (i:Nat) (v:V),ys[i]?=some v->∃ a t,v=V.ref a/\ts[i]?=some t/\H a=some (.tup (t.2.1.map V.int))
abbrev G52(K:Â)(n:Nat):TE:=tCB (λ(xs:List V) (H:Hp) (Q:VK)=>∃ p ys,xs=[V.ref p]/\((SqL K H p ys/\∀ l,H l=none->Q (.ref l) (upd H l (.tup ys)))∨(SqT K H p ys/\Q (.ref p) H))) (o21 (Q41 n) f52)
theorem U51{K:Â}{Hb H:Hp}{d:È}{o:Obj}{ts:List GT}{σ0:St}{n:Nat}{Q:VK}(hn:n < σ0.length)(z:ts.length<=sizeLine)(g:GE Hb d o ts 0 [] H)
  (h:∀ ys H1 p,GE Hb d o ts ts.length ys H1->H1 p=none->Q (.ref p) (upd H1 p (.lst ys))):E11 (Itv d o (kvG ts)) σ0 H (Q00 n) i71 (G52 K n) Q:=by
 have kl:(kvG ts).length=ts.length:=by unfold kvG;rw[Ç]
 refine⟨λi m ys H=>m=ts.length - i/\i<=ts.length/\GE Hb d o ts i ys H,⟨_,rfl,Å4 _,g⟩,?_⟩;rintro i m ys H ⟨rfl,hi,g⟩;by_cases e:i=ts.length
 ·subst e;exact .inl ⟨⟨g.dic,kl.symm⟩,λp hp=>h ys H p g hp⟩
 ·have hlt:i < ts.length:=Nat.lt_of_le_of_ne hi e;refine .inr ⟨⟨g.dic,by rw[kl];exact hlt⟩,by rw[g.len];exact à hlt z,λzs H'=>GE Hb d o ts (i + 1) zs H',λzs H' q=>⟨ts.length - (i + 1),by omega,rfl,hlt,q⟩,λx H' y=>?_⟩
  obtain⟨rfl,k,hk⟩:=y;have ht:ts[i]?=some ts[i]:=Ò hlt;have hx:x=.ref ts[i].2.2:=by
   unfold kvG at hk;rw[Ö,ht] at hk;cases hk;rfl
  subst hx;unfold Q00 i71;dsimp only;rw[if_pos rfl];have hat:=g.ok.at_ ts[i] (Å8 hlt);refine⟨_,Ý hn,ts[i].2.2,_,rfl,.inl ⟨SqL.of hat,λl hl=>?_⟩⟩;have ne:∀ {b:È}{u:HO},H' b=some u->b≠l:=λq z=>by rw[z,hl] at q;cases q
  refine⟨by rw[a30 (ne g.dic)];exact g.dic,⟨g.ok.nd,λt ht=>by rw[a30 (ne (g.ok.at_ t ht))];exact g.ok.at_ t ht⟩,λb u n e=>by rw[a30 (ne (g.old b u n e))];exact g.old b u n e,by rw[À0,g.len];rfl,λj v hv=>?_⟩
  rw[Ë2] at hv;split at hv
  ·obtain⟨a,t,h1,h2,h3⟩:=g.tup j v hv;exact⟨a,t,h1,h2,by rw[a30 (ne h3)];exact h3⟩
  ·rename_i hj;have hj0:j - ys.length=0:=by
    cases q:j - ys.length with
    |zero=>rfl|succ q'=>rw[q] at hv;simp at hv
   rw[hj0] at hv;cases hv;have:j=i:=by have:=g.len;omega
   subst this;exact⟨l,ts[j],rfl,ht,b50⟩
end
end L2
namespace Q
open PySem L2
abbrev Z:=Option (Int × Bool)
inductive S where
 |d (x:D) | fr (xs:List D) | z
inductive R (α:Type) where
 |ok (a:α) (z:Z) | er (c:Nat) (z:Z)
abbrev M(α:Type):=Z->Option (R α)
def M.ret{α:Type}(a:α):M α:=λz=>some (.ok a z)
def M.no{α:Type}:M α:=λ_=>none
def M.of{α:Type}:Option α->M α
 |some a=>M.ret a|none=>M.no
def M.bind{α β:Type}(m:M α)(f:α->M β):M β:=λz=>match m z with
 |some (.ok a z1)=>f a z1|some (.er c z1)=>some (.er c z1)|none=>none
def M.calm{α:Type}(m:M α):M α:=λz=>match m z with
 |some (.ok a z1)=>some (.ok a z1)|_=>none
abbrev Env:=List (Option S)
def pl:List S->Option D
 |[.d x]=>some x|[.fr xs]=>some (.lst xs)|_=>none
def one:List S->Option S
 |[s]=>some s|_=>none
def plS:S->S
 |.fr xs=>.d (.lst xs)|s=>s
def plD:S->Option D
 |.d x=>some x|.fr xs=>some (.lst xs)|_=>none
def plA:List S->Option (List D)
 |[]=>some []|.d x::r=>(plA r).map (x::·)|.fr xs::r=>(plA r).map (.lst xs::·)|_::_=>none
inductive Bi where
 |add | sub | mul | fdiv | mod | pow
inductive Cm where
 |eq | ne | lt | le | gt | ge | mem | nmem
inductive Bf where
 |len | sorted | tuple | list | sum | min | max | all | int | sset | r72
inductive Ty where
 |int | bool | tuple | list | str | seq
inductive Pat where
 |v (i:Nat) | tup (ps:Pat) | nil | cons (p r:Pat)
inductive It where
 |seq | rng1 | rng2 | zip | enum
inductive Ex where
 |nil | cons (a r:Ex)
 |var (i:Nat) | con (x:D) | gint (g:Str) (i:Int)
 |tup (as:Ex) | lst (as:Ex)
 |bin (o:Bi) (a b:Ex) | cmp (o:Cm) (a b:Ex) | neg (a:Ex)
 |not (a:Ex) | and (a b:Ex) | or (a b:Ex) | orT (a b:Ex) | ite (c a b:Ex)
 |ch (o o':Cm) (a b c:Ex)
 |bf (f:Bf) (as:Ex) | isi (t:Ty) (a:Ex)
 |idx (a i:Ex) | sl (a lo hi:Ex)
 |call (f:Nat) (as:Ex)
 |comp (own:Nat) (capt:List Nat) (p:Pat) (it:It) (src cond el:Ex)
 |zget (i k:Nat) | lrng (b:Bool) (as:Ex)
abbrev most:Nat:=100000
def H70:Nat:=2 ^ 4000
mutual
noncomputable def eqD:D->D->Bool
 |.non,.non=>true|.bl a,.bl b=>a == b|.int a,.int b=>a == b|.str a,.str b=>a == b|.bl a,.int b=>(if a then 1 else 0) == b|.int a,.bl b=>a == (if b then 1 else 0)|.tup a,.tup b=>h82 a b|.lst a,.lst b=>h82 a b|.dct,.dct=>true|_,_=>false
noncomputable def h82:List D->List D->Bool
 |[],[]=>true|a::r,b::q=>eqD a b&&h82 r q|_,_=>false
end
mutual
noncomputable def ltD:D->D->Option Bool
 |.int a,.int b=>some (decide (a < b))|.tup a,.tup b=>G51 a b|_,_=>none
noncomputable def G51:List D->List D->Option Bool
 |[],[]=>some false|[],_::_=>some true|_::_,[]=>some false|a::r,b::q=>if eqD a b then G51 r q else ltD a b
end
mutual
noncomputable def x80:D->Bool
 |.dct=>false|.tup l=>h90 l|.lst l=>h90 l|.str x=>PyData.strOk x|_=>true
noncomputable def h90:List D->Bool
 |[]=>true|x::r=>x80 x&&h90 r
end
mutual
noncomputable def deep:D->Nat
 |.tup l=>l80 l + 1|.lst l=>l80 l + 1|_=>0
noncomputable def l80:List D->Nat
 |[]=>0|x::r=>Nat.max (deep x) (l80 r)
end
def okD(d:D):Bool:=x80 d&&decide (deep d<=40)
def c02(l:List D):Bool:=h90 l&&decide (l80 l<=39)
theorem e80{c:Prop}[Decidable c]{α:Type}{a:Option α}{b:α}(h:(if c then a else none)=some b):c/\a=some b:=by
 by_cases k:c
 ·rw[if_pos k] at h;exact⟨k,h⟩
 ·rw[if_neg k] at h;cases h
def eqO(a b:D):Option Bool:=if okD a&&okD b then some (eqD a b) else none
def eqE:D->D->Option Bool
 |.tup l,.tup []=>some l.isEmpty|_,_=>none
def eqQ(a b:D):Option Bool:=if okD a&&okD b then some (eqD a b) else eqE a b
def ltO(a b:D):Option Bool:=if okD a&&okD b then ltD a b else none
def memD(x:D)(l:List D):Bool:=l.any λy=>eqD y x
def C41(x:D)(l:List D):Option Bool:=if okD x&&c02 l then some (memD x l) else none
def y20:List D->Option (List Int)
 |[]=>some []|.int i::r=>(y20 r).map (i::·)|_=>none
def x90:Bi->D->D->Option S
 |.add,.int i,.int j=>some (.d (.int (i + j)))|.add,.tup a,.tup b=>if a.length + b.length<=most then some (.d (.tup (a++b))) else none|.add,.lst a,.lst b=>if a.length + b.length<=most then some (.fr (a++b)) else none|.sub,.int i,.int j=>some (.d (.int (i - j)))|.mul,.int i,.int j=>if i.natAbs < H70/\j.natAbs < H70 then some (.d (.int (i * j))) else none|.mul,.tup a,.int j=>if 0<=j/\j.toNat * a.length<=most/\j < 1000000 then some (.d (.tup (æ j.toNat a).flatten)) else none|.mul,.lst a,.int j=>if 0<=j/\j.toNat * a.length<=most/\j < 1000000 then some (.fr (æ j.toNat a).flatten) else none|.fdiv,.int i,.int j=>if 0 < j/\j.natAbs < H70 then some (.d (.int (i / j))) else none|.mod,.int i,.int j=>if 0 < j then some (.d (.int (i % j))) else none|.pow,.int i,.int j=>if 0<=j/\j<=1000/\i.natAbs < 2 ^ 64 then some (.d (.int (i ^ j.toNat))) else none|_,_,_=>none
def h92:D->Bool
 |.non=>true|_=>false
def neO:D->D->Option Bool
 |.dct,.tup _=>some true|a,b=>(eqO a b).map (!·)
def H80:Cm->D->D->Option Bool
 |.eq,a,b=>eqQ a b|.ne,a,b=>neO a b|.lt,a,b=>ltO a b|.gt,.int a,.int b=>some (decide (b < a))|.le,.int a,.int b=>some (decide (a<=b))|.le,.tup a,.tup b=>(y20 a).bind λns=>(y20 b).map λms=>HT.leB ns ms|.ge,.int a,.int b=>some (decide (b<=a))|.mem,a,.tup l=>C41 a l|.mem,a,.lst l=>C41 a l|.nmem,a,.tup l=>(C41 a l).map (!·)|.nmem,a,.lst l=>(C41 a l).map (!·)|_,_,_=>none
def s12:Ty->D->Bool
 |.int,.int _=>true|.int,.bl _=>true|.bool,.bl _=>true|.tuple,.tup _=>true|.list,.lst _=>true|.str,.str _=>true|.seq,.tup _=>true|.seq,.lst _=>true|_,_=>false
def asB:D->Option Bool
 |.bl b=>some b|_=>none
def i02:D->Option (List D)
 |.tup l=>some l|_=>none
def asI:D->Option Int
 |.int i=>some i|_=>none
def c51:D->Option (List D)
 |.tup l=>some l|.lst l=>some l|_=>none
mutual
noncomputable def flt:D->List Int
 |.int i=>[i]|.tup l=>G62 l|_=>[]
noncomputable def G62:List D->List Int
 |[]=>[]|x::r=>flt x++G62 r
end
mutual
noncomputable def eqT:D->D->Bool
 |.int i,.int j=>i == j|.tup a,.tup b=>W20 a b|_,_=>false
noncomputable def W20:List D->List D->Bool
 |[],[]=>true|x::r,y::q=>eqT x y&&W20 r q|_,_=>false
end
def r81:D->Nat
 |.int _=>0|.tup (.int _::_)=>1|.tup (.tup _::_)=>2|_=>3
def l90(x y:D):Bool:=r81 y == r81 x&&(ltD x y == some (MySort.k00 (flt x) (flt y))&&(eqT x y || !(flt x == flt y)))
def s20(l:List D):Bool:=l.all λx=>decide (r81 x < 3)&&(okD x&&l.all (l90 x))
def G61(k:D):List D->List D
 |[]=>[k]|y::r=>if MySort.k00 (flt y) (flt k) then y::G61 k r else k::y::r
def D80:List D->List D
 |[]=>[]|k::r=>G61 k (D80 r)
def g80(k m:Nat):D:=.tup ((TS.D50 k 0 m).map λ(i:Nat)=>.int i)
def i00(k:Nat):List D:=(Û (2 ^ k)).map (g80 k)
def G71(k:Nat):List D:=(TS.sN k).map (g80 k)
def G72(l:List D):Option (List D):=((Û 9).find? λk=>W20 l (i00 k)).map G71
def sortedS(x:D):Option S:=(c51 x).bind λl=>if l.length < 64/\s20 l=true then some (.fr (D80 l)) else(G72 l).map S.fr
def G81:List D->Option Int
 |[]=>some 0|.int i::r=>(G81 r).map (i + ·)|_=>none
def bfD:Bf->List D->Option S
 |.len,[x]=>(c51 x).map λl=>.d (.int l.length)|.tuple,[x]=>(c51 x).map λl=>.d (.tup l)|.list,[x]=>(c51 x).map λl=>.fr l|.all,[.lst l]=>(l.mapM asB).map λbs=>.d (.bl (bs.all id))|.sorted,[x]=>sortedS x|.sum,[x]=>((c51 x).bind G81).map λi=>.d (.int i)|.min,[.int i,.int j]=>some (.d (.int (if j < i then j else i)))|.max,[.int i,.int j]=>some (.d (.int (if j > i then j else i)))|.int,[.bl b]=>some (.d (.int (if b then 1 else 0)))|.int,[.int i]=>some (.d (.int i))|_,_=>none
def j81:D->D->Option D
 |.tup l,.int i=>atI l i|.lst l,.int i=>atI l i|_,_=>none
def cutD(l:List D)(lo hi:Option Int):List D:=(l.drop (HT.sIx l.length 0 lo)).take (HT.sIx l.length l.length hi - HT.sIx l.length 0 lo)
def slD:D->Option Int->Option Int->Option S
 |.tup l,lo,hi=>some (.d (.tup (cutD l lo hi)))|.lst l,lo,hi=>some (.fr (cutD l lo hi))|_,_,_=>none
def r91:List S->Option (Option Int)
 |[]=>some none|[.d (.int i)]=>some (some i)|_=>none
def v90:List D->Nat->List D
 |[],_=>[]|x::r,i=>.tup [.int i,x]::v90 r (i + 1)
def B30:List D->List D->List D
 |x::r,y::q=>.tup [x,y]::B30 r q|_,_=>[]
def inR:Int->Bool
 |.ofNat n=>Nat.blt n 100000|.negSucc n=>Nat.blt n 99999
theorem L10:inR j=true↔-100000 < j/\j < 100000:=by
 cases j with
 |ofNat n=>show ble (n + 1) 100000=true↔_;rw[Nat.ble_eq];show _↔-100000 < (n:Int)/\(n:Int) < 100000;omega|negSucc n=>show ble (n + 1) 99999=true↔_;rw[Nat.ble_eq,Int.negSucc_eq];omega
def itD:It->List D->Option (List D)
 |.seq,[x]=>c51 x|.rng1,[.int j]=>if inR j=true then some ((Û j.toNat).map λ(i:Nat)=>D.int i) else none|.rng2,[.int i,.int j]=>if inR i=true/\inR j=true then some ((Û (j - i).toNat).map λ(k:Nat)=>D.int (i + k)) else none|.zip,[.tup a,.tup b]=>some (B30 a b)|.zip,[.lst a,.lst b]=>some (B30 a b)|.enum,[.tup a]=>some (v90 a 0)|.enum,[.lst a]=>some (v90 a 0)|_,_=>none
def lrS:Bool->List D->S
 |true,xs=>.d (.tup xs)|false,xs=>.fr xs
def lrN:Bool->Str
 |true=>"tuple"|false=>"list"
def lrD:List D->Option (List D)
 |[x]=>itD .rng1 [x]|l=>itD .rng2 l
mutual
noncomputable def e90:Pat->D->Env->Option Env
 |.v i=>λx ρ=>some (ρ.set i (some (.d x)))
 |.tup ps=>λx ρ=>match x with
  |.tup l=>bindL ps l ρ|_=>none
 |.nil=>λ_ _=>none|.cons _ _=>λ_ _=>none
noncomputable def bindL:Pat->List D->Env->Option Env
 |.nil=>λl ρ=>match l with
  |[]=>some ρ|_=>none
 |.cons p r=>λl ρ=>match l with
  |x::l=>(e90 p x ρ).bind λρ=>bindL r l ρ|_=>none
 |.v _=>λ_ _=>none|.tup _=>λ_ _=>none
end
def turns(f:D->M (Option D)):List D->M (List D)
 |[]=>M.ret []|x::r=>M.bind (f x) λo=>M.bind (turns f r) λl=>M.ret (match o with | some y=>y::l | none=>l)
def r80(fc fe:Env->M (List S))(p:Pat)(ρ0:Env)(x:D):M (Option D):=M.bind (M.of (e90 p x ρ0)) λρ'=>M.bind (fc ρ') λc=>match c with
 |[]=>M.bind (fe ρ') λy=>M.bind (M.of (pl y)) λy=>M.ret (some y)|[.d (.bl true)]=>M.bind (fe ρ') λy=>M.bind (M.of (pl y)) λy=>M.ret (some y)|[.d (.bl false)]=>M.ret none|_=>M.no
def s01(k:Nat):Option (Option S)->Z->Option (R (List S))
 |some (some .z),some p=>if k=0 then some (.ok [.d (.int p.1)] (some p)) else if k=1 then some (.ok [.d (.bl p.2)] (some p)) else none|_,_=>none
abbrev FT:=Bool->Nat->List S->M S
abbrev d00(F:FT):FT:=λ_=>F true
def ev:FT->Ex->Env->M (List S)
 |F,.nil=>λ_=>M.ret []|F,.cons a r=>λρ=>M.bind (ev F a ρ) λx=>M.bind (M.of (one x)) λs=>M.bind (ev F r ρ) λy=>M.ret (s::y)
 |F,.var i=>λρ=>match ρ[i]? with
  |some (some s)=>M.ret [plS s]|_=>M.no
 |F,.con x=>λ_=>M.ret [.d x]|F,.gint _ i=>λ_=>M.ret [.d (.int i)]|F,.tup as=>λρ=>M.bind (ev F as ρ) λl=>M.bind (M.of (plA l)) λds=>if ds.length<=most then M.ret [.d (.tup ds)] else M.no|F,.lst as=>λρ=>M.bind (ev F as ρ) λl=>M.bind (M.of (plA l)) λds=>if ds.length<=most then M.ret [.fr ds] else M.no|F,.bin o a b=>λρ=>M.bind (ev F a ρ) λx=>M.bind (M.of (pl x)) λx=>M.bind (ev F b ρ) λy=>M.bind (M.of (pl y)) λy=>M.bind (M.of (x90 o x y)) λs=>M.ret [s]|F,.cmp o a b=>λρ=>M.bind (ev F a ρ) λx=>M.bind (M.of (pl x)) λx=>M.bind (ev F b ρ) λy=>M.bind (M.of (pl y)) λy=>M.bind (M.of (H80 o x y)) λb=>M.ret [.d (.bl b)]|F,.neg a=>λρ=>M.bind (ev F a ρ) λx=>M.bind (M.of ((pl x).bind asI)) λi=>M.ret [.d (.int (-i))]|F,.not a=>λρ=>M.bind (ev F a ρ) λx=>M.bind (M.of ((pl x).bind asB)) λb=>M.ret [.d (.bl !b)]|F,.and a b=>λρ=>M.bind (ev F a ρ) λx=>M.bind (M.of ((pl x).bind asB)) λc=>if c then M.bind (ev F b ρ) λy=>M.bind (M.of ((pl y).bind asB)) λc=>M.ret [.d (.bl c)] else M.ret [.d (.bl false)]|F,.or a b=>λρ=>M.bind (ev F a ρ) λx=>M.bind (M.of ((pl x).bind asB)) λc=>if c then M.ret [.d (.bl true)] else M.bind (ev F b ρ) λy=>M.bind (M.of ((pl y).bind asB)) λc=>M.ret [.d (.bl c)]|F,.orT a b=>λρ=>M.calm (M.bind (ev F a ρ) λx=>M.bind (M.of ((pl x).bind i02)) λl=>if l.isEmpty then M.bind (ev F b ρ) λy=>M.bind (M.of ((pl y).bind i02)) λl=>M.ret [.d (.tup l)] else M.ret [.d (.tup l)])|F,.ite c a b=>λρ=>M.bind (ev F c ρ) λx=>M.bind (M.of ((pl x).bind asB)) λc=>if c then ev F a ρ else ev F b ρ
 |F,.ch o o' a b c=>λρ=>M.bind (ev F a ρ) λx=>M.bind (M.of (pl x)) λx=>M.bind (ev F b ρ) λy=>M.bind (M.of (pl y)) λy=>M.bind (M.of (H80 o x y)) λk =>
   if k then M.bind (ev F c ρ) λw=>M.bind (M.of (pl w)) λw=>M.bind (M.of (H80 o' y w)) λk=>M.ret [.d (.bl k)] else M.ret [.d (.bl false)]
 |F,.bf f as=>λρ=>M.bind (ev F as ρ) λl=>M.bind (M.of (plA l)) λds=>M.bind (M.of (bfD f ds)) λs=>M.ret [s]|F,.isi t a=>λρ=>M.bind (ev F a ρ) λx=>M.bind (M.of (pl x)) λx=>M.ret [.d (.bl (s12 t x))]|F,.idx a i=>λρ=>M.bind (ev F a ρ) λx=>M.bind (M.of (pl x)) λx=>M.bind (ev F i ρ) λy=>M.bind (M.of (pl y)) λy=>M.bind (M.of (j81 x y)) λr=>M.ret [.d r]|F,.sl a lo hi=>λρ=>M.bind (ev F a ρ) λx=>M.bind (M.of (pl x)) λx=>M.bind (ev F lo ρ) λu=>M.bind (M.of (r91 u)) λu=>M.bind (ev F hi ρ) λv=>M.bind (M.of (r91 v)) λv=>M.bind (M.of (slD x u v)) λs=>M.ret [s]|F,.call f as=>λρ=>M.bind (ev F as ρ) λl=>M.bind (F false f (l.map plS)) λs=>M.ret [s]|F,.comp own capt p it src cond el=>λρ=>M.bind (ev F src ρ) λl=>M.bind (M.of ((plA l).bind (itD it))) λxs=>if xs.length<=most then M.bind (M.calm (turns (r80 (ev F cond) (ev F el) p (æ own none++capt.map λi=>(ρ[i]?).getD none)) xs)) λys=>M.ret [.fr ys] else M.no|F,.zget i k=>λρ z=>s01 k ρ[i]? z|F,.lrng b as=>λρ=>M.bind (ev F as ρ) λl=>M.bind (M.of ((plA l).bind lrD)) λxs=>M.ret [lrS b xs]
def S30(ρ:Env):Env:=ρ.map λo=>match o with
 |some .z=>none|o=>o
inductive Sm where
 |nil | seq (s r:Sm)
 |set (p:Pat) (e:Ex) | ret (e:Ex) | iff (c:Ex) (t e:Sm)
 |fr (p:Pat) (it:It) (src:Ex) (b:Sm) | whl (c:Ex) (b:Sm)
 |rais (c:Nat) | exp (e:Ex)
 |app (i:Nat) (e:Ex) | augi (i:Nat) (x e:Ex) | aug (o:Bi) (i:Nat) (e:Ex)
 |newz (i:Nat) (f:Nat) (as:Ex) | zset (i:Nat) (e:Ex)
 |grp (i j k:Nat) (src:Ex)
def s11:List (Int × List Int)->Nat->List Int->List (Int × List Int)
 |gs,_,[]=>gs|gs,p,m::r=>s11 (j71 gs m p) (p + 1) r
def j91(ns:List Int):List D:=(s11 [] 0 ns).map λg=>.tup (g.2.map D.int)
def U61:List D->Option S
 |[.lst a]=>match y20 a with
  |some ns=>if ns.length < 1000 then some (.fr (j91 ns)) else none|none=>none
 |_=>none
inductive O where
 |nx (ρ:Env) | rt (s:S)
mutual
noncomputable def bare:D->Bool
 |.lst _=>false|.tup l=>k20 l|.dct=>false|_=>true
noncomputable def k20:List D->Bool
 |[]=>true|x::r=>bare x&&k20 r
end
def k01:S->Bool
 |.d x=>bare x|.fr xs=>k20 xs|_=>true
def X80(ρ:Env):Env:=ρ.map λo=>o.map plS
def L20(b:Bool):Option S->Option S
 |some (.fr xs)=>some (if b then .fr xs else .d (.lst xs))|o=>o
theorem S40(b:Bool)(ρ:Env):ρ.map (L20 b)=if b then ρ else X80 ρ:=by
 have h:∀ o:Option S,L20 b o=if b then o else o.map plS:=λo=>by
  match o with
  |some (.fr xs)=>cases b <;> rfl
  |some (.d _)=>cases b <;> rfl
  |some .z=>cases b <;> rfl
  |none=>cases b <;> rfl
 rw[show L20 b=λo=>if b then o else o.map plS from funext h];cases b with
 |true=>exact map_id ρ|false=>rfl
def i90(s:S)(ρ:Env):Env:=ρ.map (L20 (k01 s))
def G90:Pat->S->Env->Option Env
 |p,.d x,ρ=>e90 p x ρ|.v i,s,ρ=>if i < ρ.length then some (ρ.set i (some s)) else none|_,_,_=>none
def W30(f:D->Env->M O):List D->Env->M O
 |[],ρ=>M.ret (.nx ρ)
 |x::r,ρ=>M.bind (f x ρ) λo=>match o with
  |.nx ρ=>W30 f r ρ|.rt s=>M.ret (.rt s)
def N31(c:Env->M (List S))(f:Env->M O):Nat->Env->M O
 |0,_=>M.no
 |n + 1,ρ=>M.bind (c ρ) λx=>M.bind (M.of ((pl x).bind asB)) λk=>if k then M.bind (f ρ) λo=>match o with
  |.nx ρ=>N31 c f n ρ|.rt s=>M.ret (.rt s)
  else M.ret (.nx ρ)
def ownAt(ρ:Env)(i:Nat):Option (List D):=match ρ[i]? with
 |some (some (.fr xs))=>some xs|_=>none
def H90(xs:List D)(i:Int)(y:D):Option (List D):=(ixN xs.length i).map λj=>xs.set j y
def U71:D->Bool
 |.tup l=>k20 l|.lst l=>k20 l|_=>true
def S50(l:List S):Bool:=match plA l with
 |some ds=>ds.all U71|none=>false
def noS:S->Option S
 |.z=>none|s=>some s
def U81:(it:It)->(e:Ex)->Option {i:Nat // it=.seq/\e=.cons (.var i) .nil}
 |.seq,.cons (.var i) .nil=>some ⟨i,rfl,rfl⟩|_,_=>none
def k11:List S->Bool
 |[]=>false|.d (.lst _)::_=>true|_::r=>k11 r
def S60(it:It)(e:Ex)(l:List S)(ρ:Env):Env:=match U81 it e with
 |some i=>ρ.set i.1 ((ρ[i.1]?.getD none).map plS)
 |none=>match k11 l with
  |true=>X80 ρ|false=>ρ
def s21(it:It)(e:Ex)(l:List S)(ρ:Env):Env:=(S60 it e l ρ).map (L20 (S50 l))
abbrev c12:Nat:=20000
def s31(tp:Bool)(ρ:Env)(i:Nat):List S->Option (R O)
 |[.fr [.int n,.bl b]]=>if tp then some (.ok (.nx ((S30 ρ).set i (some .z))) (some (n,b))) else none|_=>none
def s41(ρ:Env)(v:Int):Option (Option S)->Z->Option (R O)
 |some (some .z),some p=>some (.ok (.nx ρ) (some (v,p.2)))|_,_=>none
def ex(F:FT)(tp:Bool):Sm->Env->M O
 |.nil=>λρ=>M.ret (.nx ρ)
 |.seq s r=>λρ=>M.bind (ex F tp s ρ) λo=>match o with
  |.nx ρ=>ex F tp r ρ|.rt s=>M.ret (.rt s)
 |.set p e=>λρ=>M.bind (ev F e ρ) λl=>M.bind (M.of (one l)) λs=>M.bind (M.of (G90 p s (i90 s ρ))) λρ=>M.ret (.nx ρ)
 |.ret e=>λρ=>match e with
  |.var i=>(match ρ[i]? with
   |some (some s)=>M.bind (M.of (noS s)) λs=>M.ret (.rt s)
   |_=>M.no)
  |e=>M.bind (ev F e ρ) λl=>M.bind (M.of ((one l).bind noS)) λs=>M.ret (.rt s)
 |.iff c t e=>λρ=>M.bind (ev F c ρ) λx=>M.bind (M.of ((pl x).bind asB)) λc=>if c then ex F tp t ρ else ex F tp e ρ|.fr p it src b=>λρ=>M.bind (ev F src ρ) λl=>M.bind (M.of ((plA l).bind (itD it))) λxs=>W30 (λx ρ=>M.bind (M.of (e90 p x ρ)) λρ=>ex F tp b ρ) xs (s21 it src l ρ)|.whl c b=>λρ=>N31 (ev F c) (ex F tp b) c12 ρ|.rais c=>λ_ z=>some (.er c z)|.exp e=>λρ=>M.bind (ev F e ρ) λl=>M.bind (M.of (one l)) λ_=>M.ret (.nx ρ)|.app i e=>λρ=>M.bind (M.of (ownAt ρ i)) λxs=>M.bind (ev F e ρ) λl=>M.bind (M.of (pl l)) λx=>if bare x=true/\xs.length < most then M.ret (.nx (ρ.set i (some (.fr (xs++[x]))))) else M.no
 |.augi i ix e=>λρ=>M.bind (M.of (ownAt ρ i)) λxs=>M.bind (ev F ix ρ) λj=>M.bind (M.of ((pl j).bind asI)) λj=>M.bind (M.of (atI xs j)) λy=>M.bind (ev F e ρ) λl=>M.bind (M.of (pl l)) λx =>
   M.bind (M.of ((asI x).bind λx=>(asI y).map λy=>D.int (y + x))) λv=>M.bind (M.of (H90 xs j v)) λxs=>M.ret (.nx (ρ.set i (some (.fr xs))))
 |.aug o i e=>λρ=>M.bind (M.of ((ρ[i]?.getD none).bind plD)) λy=>M.bind (ev F e ρ) λl=>M.bind (M.of ((pl l).bind asI)) λx=>M.bind (M.of ((asI y).bind λy=>x90 o (.int y) (.int x))) λs=>M.bind (M.of (G90 (.v i) s (i90 s ρ))) λρ=>M.ret (.nx ρ)|.newz i f as=>λρ=>M.bind (ev F (.call f as) ρ) λl=>λ_=>s31 tp ρ i l|.zset i e=>λρ=>M.bind (ev F e ρ) λl=>M.bind (M.of ((pl l).bind asI)) λv=>λz=>s41 ρ v ρ[i]? z|.grp i j k src=>λρ=>if i < ρ.length/\j < ρ.length/\k < ρ.length then M.bind (ev F (.cons src .nil) (ρ.set i none)) λl=>M.bind (M.of ((plA l).bind U61)) λs=>M.ret (.rt s) else M.no
inductive Df where
 |code (ps ns:Nat) (b:Sm) | prim (f:List S->M S)
def L30:Z->Z->Z
 |none,_=>none|some _,z=>z
def start(ns:Nat)(l:List S):Env:=l.map some++æ (ns - l.length) none
def run(F:FT):Df->List S->M S
 |.code ps ns b,l=>λz=>if l.length=ps/\ps<=ns then(match ex F z.isNone b (start ns (l.map plS)) z with
  |some (.ok (.nx _) z1)=>some (.ok (.d .non) (L30 z z1))|some (.ok (.rt s) z1)=>some (.ok s (L30 z z1))|some (.er c z1)=>some (.er c (L30 z z1))
  |none=>none) else none
 |.prim f,l=>f l
def b60(T:List Df):Nat->Nat->List S->M S
 |k + 3,f,l=>match T[f]? with
  |some d=>run (λb g m=>match b with | true=>b60 T k g m | false=>b60 T (k + 2) g m) d l
  |none=>M.no
 |_,_,_=>M.no
abbrev P60(T:List Df)(k:Nat):FT:=λb g m=>match b with | true=>b60 T (k - 2) g m | false=>b60 T k g m
theorem X90(T:List Df)(k f:Nat)(l:List S):b60 T (k + 3) f l=match T[f]? with
  |some d=>run (P60 T (k + 2)) d l|none=>M.no:=rfl
end Q
namespace Q
open PySem L2 PySem.Spec PyProof.Rows
def r90(K:Â)(H:Hp)(a:È)(xs:List V):Prop:=Rd H a (.lst xs)∨∃ (its:Array Ä) (n:Nat),K.lookup a=some { cls:=.type "list",data:=.seq its n }/\its.size<=sizeLine/\Vals xs its.toList
theorem r90.of{K:Â}{H:Hp}{a:È}{xs:List V}(h:H a=some (.lst xs)):r90 K H a xs:=.inl (.inl h)
theorem r90.sq{K:Â}{H:Hp}{a:È}{xs:List V}(h:r90 K H a xs):SqL K H a xs:=by
 rcases h with h | ⟨its,n,h1,h2,h3⟩
 ·exact .inl h
 ·exact .inr ⟨_,its,n,h1,rfl,rfl,rfl,h2,h3⟩
theorem r90.same{K:Â}{H H':Hp}{a:È}{xs:List V}(h:r90 K H a xs)(e:a40 H H'):r90 K H' a xs:=by
 rcases h with (h | ⟨o,h⟩) | h
 ·exact .inl (.inl (e _ _ h))
 ·exact .inl (.inr ⟨o,e _ _ h⟩)
 ·exact .inr h
theorem r90.mem(I:Inv X pins σ H s)(h:r90 X.K H a xs):xs.length<=sizeLine/\∃ (its:List Ä) (n:Nat),Vals xs its/\xs.length=its.length/\s.heap.get? a=some { cls:=.type "list",data:=.seq its.toArray n }:=by
 rcases h with (h | ⟨o,h⟩) | ⟨its,n,h1,h2,h3⟩
 ·exact I.w02 h
 ·obtain⟨e,z,its,n,r,e2⟩:=I.hok a _ h;exact⟨z,its,n,r,r.length,e2⟩
 ·refine⟨by rw[h3.length,È6];exact h2,its.toList,n,h3,h3.length,?_⟩
  have:=I.kIn a _ h1;rw[Î3];exact this
mutual
def Hd(K:Â)(H:Hp):D->V->Prop
 |.non,v=>v=.non|.bl b,v=>v=.bl b|.int i,v=>v=.int i|.str x,v=>v=.str x|.tup ds,v=>∃ a xs,v=.ref a/\SqT K H a xs/\HdA K H ds xs|.lst ds,v=>∃ a xs,v=.ref a/\r90 K H a xs/\HdA K H ds xs|.dct,v=>∃ a kvs,v=.ref a/\H a=some (.dK kvs)
def HdA(K:Â)(H:Hp):List D->List V->Prop
 |[],xs=>xs=[]|d::ds,xs=>∃ x r,xs=x::r/\Hd K H d x/\HdA K H ds r
end
section
variable {K:Â}{H H':Hp}
mutual
theorem Hd.same(e:a40 H H'):∀ {d:D}{v:V},Hd K H d v->Hd K H' d v
 |.non,_,h=>by unfold Hd at h ⊢;exact h|.bl _,_,h=>by unfold Hd at h ⊢;exact h|.int _,_,h=>by unfold Hd at h ⊢;exact h|.str _,_,h=>by unfold Hd at h ⊢;exact h
 |.tup ds,_,h=>by
  unfold Hd at h ⊢;obtain⟨a,xs,rfl,h1,h2⟩:=h;exact⟨a,xs,rfl,e.sqT h1,HdA.same e h2⟩
 |.lst ds,_,h=>by
  unfold Hd at h ⊢;obtain⟨a,xs,rfl,h1,h2⟩:=h;exact⟨a,xs,rfl,h1.same e,HdA.same e h2⟩
 |.dct,_,h=>by
  unfold Hd at h ⊢;obtain⟨a,kvs,rfl,h1⟩:=h;exact⟨a,kvs,rfl,e _ _ h1⟩
theorem HdA.same(e:a40 H H'):∀ {ds:List D}{xs:List V},HdA K H ds xs->HdA K H' ds xs
 |[],_,h=>by unfold HdA at h ⊢;exact h
 |d::ds,_,h=>by
  unfold HdA at h ⊢;obtain⟨x,r,rfl,h1,h2⟩:=h;exact⟨x,r,rfl,Hd.same e h1,HdA.same e h2⟩
end
mutual
theorem Hd.has:∀ {d:D}{v:V},Hd K H d v->Has K H d v
 |.non,_,h=>by unfold Hd at h;unfold Has;exact h|.bl _,_,h=>by unfold Hd at h;unfold Has;exact h|.int _,_,h=>by unfold Hd at h;unfold Has;exact h|.str _,_,h=>by unfold Hd at h;unfold Has;exact h
 |.tup ds,_,h=>by
  unfold Hd at h;unfold Has;obtain⟨a,xs,rfl,h1,h2⟩:=h;exact⟨a,xs,rfl,h1,HdA.has h2⟩
 |.lst ds,_,h=>by
  unfold Hd at h;unfold Has;obtain⟨a,xs,rfl,h1,h2⟩:=h;exact⟨a,xs,rfl,h1.sq,HdA.has h2⟩
 |.dct,_,h=>by unfold Hd at h;unfold Has;exact h
theorem HdA.has:∀ {ds:List D}{xs:List V},HdA K H ds xs->H60 K H ds xs
 |[],_,h=>by unfold HdA at h;unfold H60;exact h
 |d::ds,_,h=>by
  unfold HdA at h;unfold H60;obtain⟨x,r,rfl,h1,h2⟩:=h;exact⟨x,r,rfl,Hd.has h1,HdA.has h2⟩
end
theorem HdA.nil:HdA K H [] []:=by unfold HdA;rfl
theorem HdA.cons(h:Hd K H d x)(r:HdA K H ds xs):HdA K H (d::ds) (x::xs):=by unfold HdA;exact⟨x,xs,rfl,h,r⟩
theorem HdA.c00(h:HdA K H (d::ds) xs):∃ x r,xs=x::r/\Hd K H d x/\HdA K H ds r:=by unfold HdA at h;exact h
theorem HdA.f30(h:HdA K H [] xs):xs=[]:=by unfold HdA at h;exact h
theorem HdA.length:∀ {ds:List D}{xs:List V},HdA K H ds xs->xs.length=ds.length
 |[],_,h=>by rw[h.f30];rfl
 |d::ds,_,h=>by
  obtain⟨x,r,rfl,_,h2⟩:=h.c00;simp[h2.length]
theorem HdA.get:∀ {ds:List D}{xs:List V}{i:Nat}{d:D},HdA K H ds xs->ds[i]?=some d->∃ x,xs[i]?=some x/\Hd K H d x
 |[],_,_,_,_,e=>by simp at e
 |d::ds,_,i,d',h,e=>by
  obtain⟨y,r,rfl,h1,h2⟩:=h.c00;cases i with
  |zero=>simp at e;subst e;exact⟨y,rfl,h1⟩
  |succ i =>
   obtain⟨x',e1,e2⟩:=HdA.get (i:=i) h2 (by simpa using e)
   exact⟨x',by simpa using e1,e2⟩
theorem HdA.append:∀ {ds es:List D}{xs ys:List V},HdA K H ds xs->HdA K H es ys->HdA K H (ds++es) (xs++ys)
 |[],_,_,_,h,g=>by rw[h.f30];exact g
 |d::ds,_,_,_,h,g=>by
  obtain⟨x,r,rfl,h1,h2⟩:=h.c00;exact .cons h1 (HdA.append h2 g)
theorem HdA.take:∀ {ds:List D}{xs:List V} (n:Nat),HdA K H ds xs->HdA K H (ds.take n) (xs.take n)
 |ds,xs,0,_=>by simp;exact .nil|[],_,n + 1,h=>by rw[h.f30];simp;exact .nil
 |d::ds,_,n + 1,h=>by
  obtain⟨x,r,rfl,h1,h2⟩:=h.c00;exact .cons h1 (HdA.take n h2)
theorem HdA.drop:∀ {ds:List D}{xs:List V} (n:Nat),HdA K H ds xs->HdA K H (ds.drop n) (xs.drop n)
 |ds,xs,0,h=>by simpa using h|[],_,n + 1,h=>by rw[h.f30];simp;exact .nil
 |d::ds,_,n + 1,h=>by
  obtain⟨x,r,rfl,h1,h2⟩:=h.c00;exact HdA.drop n h2
theorem HdA.reverse:∀ {ds:List D}{xs:List V},HdA K H ds xs->HdA K H ds.reverse xs.reverse
 |[],_,h=>by rw[h.f30];simp;exact .nil
 |d::ds,_,h=>by
  obtain⟨x,r,rfl,h1,h2⟩:=h.c00;rw[Ñ2,Ñ2];exact(HdA.reverse h2).append (.cons h1 .nil)
theorem HdA.rep(h:HdA K H ds xs):∀ n:Nat,HdA K H (æ n ds).flatten (æ n xs).flatten
 |0=>by simp;exact .nil|n + 1=>by rw[Ã3,Ã3,È1,È1];exact h.append (h.rep n)
theorem HdA.set:∀ {ds:List D}{xs:List V}{d:D}{x:V} (i:Nat),HdA K H ds xs->Hd K H d x->HdA K H (ds.set i d) (xs.set i x)
 |[],_,_,_,_,h,_=>by rw[h.f30];simp;exact .nil
 |e::ds,_,d,x,i,h,g=>by
  obtain⟨y,r,rfl,h1,h2⟩:=h.c00;cases i with
  |zero=>exact .cons g h2|succ i=>exact .cons h1 (HdA.set i h2 g)
theorem HdA.ints:∀ ns:List Int,HdA K H (ns.map D.int) (ns.map V.int)
 |[]=>.nil|n::r=>.cons (by unfold Hd;rfl) (HdA.ints r)
theorem Hd.h60(h:Hd K H (.int i) v):v=.int i:=by unfold Hd at h;exact h
theorem Hd.bl_(h:Hd K H (.bl b) v):v=.bl b:=by unfold Hd at h;exact h
theorem Hd.x52(h:Hd K H .non v):v=.non:=by unfold Hd at h;exact h
theorem Hd.x62{x:Str}{v:V}(h:Hd K H (.str x) v):v=.str x:=by unfold Hd at h;exact h
theorem Hd.B40(h:Hd K H (.tup ds) v):∃ a xs,v=.ref a/\SqT K H a xs/\HdA K H ds xs:=by unfold Hd at h;exact h
theorem Hd.c61(h:Hd K H (.lst ds) v):∃ a xs,v=.ref a/\r90 K H a xs/\HdA K H ds xs:=by unfold Hd at h;exact h
theorem Hd.int:Hd K H (.int i) (.int i):=by unfold Hd;rfl
theorem Hd.bl:Hd K H (.bl b) (.bl b):=by unfold Hd;rfl
theorem Hd.non:Hd K H .non .non:=by unfold Hd;rfl
theorem Hd.str{x:Str}:Hd K H (.str x) (.str x):=by unfold Hd;rfl
theorem Hd.tup(h:SqT K H a xs)(r:HdA K H ds xs):Hd K H (.tup ds) (.ref a):=by unfold Hd;exact⟨a,xs,rfl,h,r⟩
theorem Hd.lst(h:H a=some (.lst xs))(r:HdA K H ds xs):Hd K H (.lst ds) (.ref a):=by unfold Hd;exact⟨a,xs,rfl,r90.of h,r⟩
end
def noT(H:Hp):Hp:=λb=>match H b with
 |some (.tbl _)=>none|o=>o
theorem S70(h:noT H b=some o):H b=some o/\∀ ps,o≠.tbl ps:=by
 unfold noT at h;split at h
 ·cases h
 ·rename_i n;exact⟨h,λps e=>n ps (by rw[h,e])⟩
theorem Y00(h:H b=some o)(n:∀ ps,o≠.tbl ps):noT H b=some o:=by
 unfold noT;split
 ·rename_i ps e;rw[h] at e;cases e;exact absurd rfl (n ps)
 ·exact h
theorem B50(H:Hp):a40 (noT H) H:=λ_ _ h=>(S70 h).1
theorem c71(e:a40 H H'):a40 (noT H) (noT H'):=λb o h=>Y00 (e b o (S70 h).1) (S70 h).2
def hz(zA:Option È)(H:Hp):Hp:=match zA with
 |some a=>hide a (noT H)|none=>noT H
class Tb where
 tb:List (Addr × Str)
variable [TB:Tb]
def zAt(zA:Option È)(z:Z)(H:Hp):Prop:=match zA,z with
 |some a,some (n,b)=>H a=some (.lst [.int n,.bl b])|none,none=>True|_,_=>False
structure e20(zA:Option Addr)(z:Z)(H:Hp):Prop where
 zat:zAt zA z H
 tab:∀ p∈TB.tb,Tab H p.1 p.2
theorem a20(zA:Option È)(H:Hp):a40 (hz zA H) H:=by
 cases zA with
 |none=>exact B50 H|some a=>exact a40.trans (d80 a _) (B50 H)
theorem j00(e:a40 H H'):a40 (hz zA H) (hz zA H'):=by
 cases zA with
 |none=>exact c71 e|some a=>exact D60 λb o _ h=>c71 e b o h
theorem d20(h:H b=some o)(n:zA≠some b)(ht:∀ ps,o≠.tbl ps:=by exact λ_ h=>nomatch h):hz zA H b=some o:=by
 cases zA with
 |none=>exact Y00 h ht|some a=>exact m80 (Y00 h ht) λe=>n (by rw[e])
theorem o70(h:hz zA H b=some o):H b=some o/\zA≠some b:=by
 cases zA with
 |none=>exact⟨B50 H b o h,λe=>nomatch e⟩
 |some a =>
  refine⟨B50 H b o (d80 a _ b o h),λe=>?_⟩;cases e;have:hide b (noT H) b=some o:=h;unfold hide at this;rw[if_pos rfl] at this;cases this
theorem o00(h:hz zA H b=some o):∀ ps,o≠.tbl ps:=by
 cases zA with
 |none=>exact(S70 h).2|some a=>exact(S70 (d80 a _ b o h)).2
structure Ext(zA:Option Addr)(H H':Hp):Prop where
 same:a40 (hz zA H) (hz zA H')
 tbl:∀ b ps,H b=some (.tbl ps)->∃ qs,H' b=some (.tbl qs)
instance {zA:Option È}{H H':Hp}:CoeFun (Ext zA H H') (λ_=>∀ b o,hz zA H b=some o->hz zA H' b=some o):=⟨λx=>x.same⟩
instance {zA:Option È}{H H':Hp}:CoeOut (Ext zA H H') (a40 (hz zA H) (hz zA H')):=⟨λx=>x.same⟩
theorem Ext.refl:Ext zA H H:=⟨a40.refl _,λb ps h=>⟨ps,h⟩⟩
theorem Ext.trans(a:Ext zA H H1)(b:Ext zA H1 H2):Ext zA H H2:=⟨a40.trans a.same b.same,λc ps h=>let ⟨qs,h1⟩:=a.tbl c ps h;b.tbl c qs h1⟩
theorem Ext.of(e:a40 H H'):Ext zA H H':=⟨j00 e,λb ps h=>⟨ps,e b _ h⟩⟩
theorem Ext.at(e:Ext zA H H')(h:H a=some o)(n:zA≠some a)(ht:∀ ps,o≠.tbl ps:=by exact λ_ h=>nomatch h):H' a=some o:=(o70 (e.same a o (d20 h n ht))).1
theorem Ext.free(e:Ext zA H H')(h:H' a=none)(n:zA≠some a):H a=none:=by
 cases q:H a with
 |none=>rfl
 |some o =>
  by_cases ht:∃ ps,o=.tbl ps
  ·obtain⟨ps,rfl⟩:=ht;obtain⟨qs,q'⟩:=e.tbl a ps q;rw[q'] at h;cases h
  ·rw[e.at q n λps z=>ht ⟨ps,z⟩] at h;cases h
theorem zAt.same(h:zAt zA z H)(e:a40 H H'):zAt zA z H':=by
 cases zA with
 |none=>cases z with
  |none=>trivial|some _=>exact h.elim
 |some a=>cases z with
  |none=>exact h.elim|some p=>exact e _ _ h
theorem e20.same(h:e20 zA z H)(e:a40 H H'):e20 zA z H':=⟨h.zat.same e,λp hp=>(h.tab p hp).same e⟩
theorem Tab.upd{H:Hp}{P a:È}{q:Str}{xs:List V}{o:HO}(t:Tab H P q)(h:H a=some (.lst xs)):Tab (upd H a o) P q:=by
 obtain⟨ps,e,tr,k⟩:=t;have ne:∀ {b:È}{u:HO},H b=some u->(∀ l,u≠.lst l)->b≠a:=λ{b u} e1 e2 z=>by
  subst z;rw[h] at e1;cases e1;exact e2 _ rfl
 refine⟨ps,by rw[a30 (ne e λ_ z=>nomatch z)];exact e,tr,λpos c hc=>?_⟩
 obtain⟨c',e1,e2⟩:=k pos c hc;exact⟨c',e1,by rw[a30 (ne e2 λ_ z=>nomatch z)];exact e2⟩
theorem e20.N41{K:Â}{zA:Option È}{z:Z}{H:Hp}(h:e20 zA z H){a:È}{xs:List V}(t:SqT K H a xs):SqT K (hz zA H) a xs:=by
 have h:=h.zat;rcases t with (t | ⟨o,t⟩) | t
 ·refine .inl (.inl (d20 t λe=>?_));subst e;cases z with
  |none=>exact h.elim
  |some p =>
   have h':H a=some (.lst [.int p.1,.bl p.2]):=h;rw[t] at h';cases h'
 ·refine .inl (.inr ⟨o,d20 t λe=>?_⟩);subst e;cases z with
  |none=>exact h.elim
  |some p =>
   have h':H a=some (.lst [.int p.1,.bl p.2]):=h;rw[t] at h';cases h'
 ·exact .inr t
theorem e20.c81(h:e20 zA z H)(n:H a=none):zA≠some a:=λe=>by
 have h:=h.zat;subst e;cases z with
 |none=>exact h.elim
 |some p =>
  have h':H a=some (.lst [.int p.1,.bl p.2]):=h;rw[n] at h';cases h'
def RvS(K:Â)(zA:Option È)(H0 H:Hp):S->V->Prop
 |.d x,v=>Hd K (hz zA H) x v|.fr xs,v=>∃ a ys,v=.ref a/\H0 a=none/\zA≠some a/\H a=some (.lst ys)/\HdA K (hide a (hz zA H)) xs ys|.z,v=>∃ a,zA=some a/\v=.ref a
def RvP(K:Â)(zA:Option È)(H:Hp):S->V->Prop
 |.d x,v=>Hd K (hz zA H) x v|.fr xs,v=>Hd K (hz zA H) (.lst xs) v|.z,v=>∃ a,zA=some a/\v=.ref a
section
variable {K:Â}{zA:Option È}{H0 H H':Hp}
theorem RvS.pl{s:S}{v:V}(h:RvS K zA H0 H s v):RvP K zA H s v:=by
 cases s with
 |d x=>exact h|z=>exact h
 |fr xs =>
  obtain⟨a,ys,rfl,_,h2,h3,h4⟩:=h;exact Hd.lst (d20 h3 h2) (h4.same (d80 a _))
theorem RvP.plS{s:S}{v:V}(h:RvP K zA H s v):RvP K zA H (plS s) v:=by cases s <;> exact h
theorem RvP.mono{s:S}{v:V}(h:RvP K zA H s v)(e:Ext zA H H'):RvP K zA H' s v:=by
 cases s with
 |d x=>exact Hd.same e h|z=>exact h|fr xs=>exact Hd.same e h
theorem RvS.mono{s:S}{v:V}(h:RvS K zA H0 H s v)(e:Ext zA H H'):RvS K zA H0 H' s v:=by
 cases s with
 |d x=>exact Hd.same e h|z=>exact h
 |fr xs =>
  obtain⟨a,ys,rfl,h1,h2,h3,h4⟩:=h;exact⟨a,ys,rfl,h1,h2,e.at h3 h2,h4.same (D60 λb o _ q=>e b o q)⟩
theorem RvS.from{H1:Hp}{s:S}{v:V}(h:RvS K zA H1 H s v)(e:Ext zA H0 H1):RvS K zA H0 H s v:=by
 cases s with
 |d x=>exact h|z=>exact h
 |fr xs =>
  obtain⟨a,ys,rfl,h1,h2,h3⟩:=h;exact⟨a,ys,rfl,e.free h1 h2,h2,h3⟩
theorem RvP.d_{s:S}{v:V}{x:D}(h:RvP K zA H s v)(e:plD s=some x):Hd K (hz zA H) x v:=by
 cases s with
 |d y=>cases e;exact h
 |fr xs=>cases e;exact h
 |_=>cases e
end
abbrev RvA(K:Â)(zA:Option È)(H:Hp):List S->List V->Prop:=Ã4 (RvP K zA H)
theorem RvA.mono{K:Â}{zA:Option È}{H H':Hp}{l:List S}{vs:List V}(h:RvA K zA H l vs)(e:Ext zA H H'):RvA K zA H' l vs:=Ã4.b92 h λ_ _ q=>q.mono e
theorem RvA.plS{K:Â}{zA:Option È}{H:Hp}:∀ {l:List S}{vs:List V},RvA K zA H l vs->RvA K zA H (l.map plS) vs
 |_,_,.nil=>.nil|_,_,.cons r t=>.cons r.plS (RvA.plS t)
theorem RvA.ds{K:Â}{zA:Option È}{H:Hp}:∀ {l:List S}{vs:List V}{ds:List D},RvA K zA H l vs->plA l=some ds->HdA K (hz zA H) ds vs
 |_,_,_,.nil,e=>by cases e;exact .nil
 |.d x::r,_,_,.cons h t,e=>by
  simp only[plA,Ñ5] at e;obtain⟨l,e,rfl⟩:=e;exact .cons h (RvA.ds t e)
 |.fr x::r,_,_,.cons h t,e=>by
  simp only[plA,Ñ5] at e;obtain⟨l,e,rfl⟩:=e;exact .cons h (RvA.ds t e)
 |.z::r,_,_,.cons h t,e=>by simp[plA] at e
theorem f40(h:pl l=some x):∃ s,l=[s]/\plD s=some x:=by
 unfold pl at h;split at h
 ·exact⟨_,rfl,h⟩
 ·exact⟨_,rfl,h⟩
 ·cases h
theorem M.bind_some{α β:Type}{m:M α}{f:α->M β}{z:Z}{r:R β}(h:M.bind m f z=some r):(∃ a z1,m z=some (.ok a z1)/\f a z1=some r)∨(∃ c z1,m z=some (.er c z1)/\r=.er c z1):=by
 unfold M.bind at h;split at h
 ·exact .inl ⟨_,_,by assumption,h⟩
 ·cases h;exact .inr ⟨_,_,by assumption,rfl⟩
 ·cases h
theorem M.a10{α β:Type}{o:Option α}{f:α->M β}{z:Z}{r:R β}(h:M.bind (M.of o) f z=some r):∃ a,o=some a/\f a z=some r:=by
 cases o with
 |none=>cases h
 |some a=>exact⟨a,rfl,h⟩
end Q
set_option exponentiation.threshold 5000
namespace Q
open PySem L2 PySem.Spec PyProof.Rows
variable [TB:Tb]
section
variable {K:Â}{zA:Option È}{z:Z}{H:Hp}
theorem G91(hp:H p=none):a40 (hz zA H) (hide p (hz zA (upd H p o))):=λb u e=>by
 obtain⟨e1,e2⟩:=o70 e;have hb:b≠p:=λq=>by subst q;rw[hp] at e1;cases e1
 exact m80 (d20 (by rw[a30 hb];exact e1) e2 (o00 e)) hb
theorem j10:RvS K zA H0 H (.d (.int i)) (.int i):=Hd.int (K:=K) (H:=hz zA H)
theorem k30:RvS K zA H0 H (.d (.bl b)) (.bl b):=Hd.bl (K:=K) (H:=hz zA H)
theorem C51(h:Hd K (hz zA H) x v):RvS K zA H0 H (.d x) v:=h
theorem s30(st:e20 zA z H)(h:HdA K (hz zA H) xs ys)(hp:H p=none):RvS K zA H (upd H p (.lst ys)) (.fr xs) (.ref p) :=
 ⟨p,ys,rfl,hp,st.c81 hp,b50,h.same (G91 hp)⟩
theorem tupQ(st:e20 zA z H)(h:HdA K (hz zA H) xs ys)(q:∀ v H',a40 H H'->RvS K zA H H' (.d (.tup xs)) v->Q v H'):G11 K H ys Q :=
 λp H' sm hq=>q _ _ sm (C51 (Hd.tup ((st.same sm).N41 hq) (h.same (j00 sm))))
end
def rD2(K:Â)(f:D->D->Option S):R2:=λx y H Q=>∃ zA z dx dy s,e20 zA z H/\Hd K (hz zA H) dx x/\Hd K (hz zA H) dy y/\f dx dy=some s/\∀ v H',a40 H H'->RvS K zA H H' s v->Q v H'
def rDn(K:Â)(f:List D->Option S):List V->Hp->VK->Prop:=λxs H Q=>∃ zA z ds s,e20 zA z H/\HdA K (hz zA H) ds xs/\f ds=some s/\∀ v H',a40 H H'->RvS K zA H H' s v->Q v H'
section
variable {X:Cx}
theorem bits_le(h:k.natAbs < H70):Û4 k<=4000:=by
 unfold Û4;split
 ·exact Å4 _
 ·have hn:k.natAbs < 2 ^ 4000:=h;have:k.natAbs.log2 < 4000:=by
   rcases Nat.eq_zero_or_pos k.natAbs with h0 | hp
   ·rw[h0];decide
   ·exact(Nat.log2_lt (Ó2 hp)).mpr hn
  omega
theorem N51(hi:i.natAbs < H70)(hj:j.natAbs < H70):IntMulOk i j:=by
 have h1:=bits_le hi;have h2:=bits_le hj;unfold IntMulOk;intro h;rw[À] at h;have h3:=h.2;unfold Å6.Int.intTooBig at h3;simp only[decide_eq_true_eq] at h3;have:(8000:Nat) < bitsLine:=by decide
 omega
theorem s51(hj:j.natAbs < H70):Å6.divisionGoesByPylong i j=false:=by
 refine PyProof.noPylong_of_log2 ?_;rcases Nat.eq_zero_or_pos j.natAbs with h0 | hp
 ·rw[h0];decide
 ·have:j.natAbs.log2 < 4000:=(Nat.log2_lt (Ó2 hp)).mpr hj;omega
theorem g10(h:n<=most):n<=sizeLine:=Ù h (by rw[Á4];decide)
def x72(K:Â):R2:=λx y H Q=>∃ l b xs zs,x=.ref l/\y=.ref b/\r90 K H l xs/\r90 K H b zs/\xs.length + zs.length<=sizeLine/\∀ p,H p=none->Q (.ref p) (upd H p (.lst (xs++zs)))
def x82(K:Â):R2:=λx y H Q=>∃ l k xs,x=.ref l/\y=.int k/\r90 K H l xs/\-(2 ^ 63)<=k/\k < 2 ^ 63/\xs.length * k.toNat<=sizeLine/\∀ p,H p=none->Q (.ref p) (upd H p (.lst (æ k.toNat xs).flatten))
theorem U91:OpR X (Ã6 .Add) (x72 X.K):=by
 intro pins s σ H x y v u Q I rx ry h;obtain⟨l,b,xs,zs,rfl,rfl,hH,hB,hz,q⟩:=h;cases rx;cases ry;obtain⟨z,its,n,r,hl,e⟩:=hH.mem I;obtain⟨z2,its2,n2,r2,hl2,e2⟩:=hB.mem I;refine PySem.P.add_list e e2 ?_ (by rw[Ô,Ô];omega)
 have ea:its.toArray++its2.toArray=(its++its2).toArray:=by simp
 rw[ea];exact⟨.ref _,_,I.F92 (t':=s.toks) (r.append r2) (by rw[À0];omega),rfl,q _ I.fresh⟩
theorem V01:OpR X (Ã6 .Mult) (x82 X.K):=by
 intro pins s σ H x y v u Q I rx ry h;obtain⟨l,k,xs,rfl,rfl,hH,h1,h2,hz,q⟩:=h;cases rx;obtain⟨t,rfl⟩:=ry;obtain⟨z,its,n,r,hl,e⟩:=hH.mem I;have hlen:its.toArray.size * k.toNat<=sizeLine:=by rw[Ô,← hl];exact hz
 have hcap:¬ its.toArray.size * k.toNat > (2 ^ 63 - 1) / 8:=by
  have:(sizeLine:Nat)<=(2 ^ 63 - 1) / 8:=by decide
  omega
 have hfit:¬ (!Å6.List.listFitsIndex k)=true:=by
  rw[fitsIndex_both h1 h2];exact Ó
 have hlong:¬ Ë8 (its.toArray.size * k.toNat)=true:=by
  rw[D91 hlen];exact Ó
 have hnew:foldl (λx1 x2=>x1++x2) #[] (æ (if its.toArray.isEmpty=true then 0 else k.toNat) its.toArray)=(æ k.toNat its).flatten.toArray:=by
  have f0:∀ m:Nat,foldl (λx1 x2=>x1++x2) #[] (æ m its.toArray)=(æ m its).flatten.toArray:=λm=>by
   have:=foldl_rep its m [];rw[É1] at this;exact this
  rw[f0];cases its with
  |nil=>simp|cons a r'=>rw[if_neg (by simp)]
 refine wpAny_binaryOp_repeat_ref (T:="list") (U:="int") (-0) ⟨_,e,rfl⟩ (λs'=>Ø4 s' k t) noFill_list_mul F.fills_int_mul Ò4 repeat_list F.slot_int_index.lookup
  (Æ7 Ò4 (Ø4 s k t) F.entry_int_rmul (F.args_int_rmul_2 _ _) (int___rmul___int_list k t l its.toArray n)
   ⟨e,rfl,⟨_,e,rfl⟩,Æ7 F.slot_list_mul ⟨_,e,rfl⟩ F.entry_list_mul (F.args_list_mul_2 _ _) (AutoListH.list___mul___list_int_3 l its.toArray n k t hfit hcap hlong) ⟨e,?_⟩⟩)
 rw[hnew];exact⟨.ref _,_,I.F92 (t':=s.toks) (r.rep k.toNat) (by rw[len_rep,Ö2];exact hz),rfl,q _ I.fresh⟩
theorem V11:OpR X (Ã6 .Add) (rD2 X.K (x90 .add)):=by
 intro pins s σ H x y v u Q I rx ry h;obtain⟨zA,z,dx,dy,w,st,hx,hy,e,q⟩:=h;cases dx with
 |int i =>
  cases dy with
  |int j =>
   cases e;cases hx.h60;cases hy.h60;exact e92 pins s σ H _ _ v u Q I rx ry ⟨i,j,rfl,rfl,q _ _ (a40.refl H) j10⟩
  |_=>cases e
 |tup a =>
  cases dy with
  |tup b =>
   obtain⟨hl,e⟩:=e80 e;cases e;obtain⟨p,xs,rfl,h1,h2⟩:=hx.B40;obtain⟨p',ys,rfl,h3,h4⟩:=hy.B40;exact T31 pins s σ H _ _ v u Q I rx ry ⟨p,p',xs,ys,rfl,rfl,(a20 zA H).sqT h1,(a20 zA H).sqT h3,g10 (by rw[h2.length,h4.length];exact hl),tupQ st (h2.append h4) q⟩
  |_=>cases e
 |lst a =>
  cases dy with
  |lst b =>
   obtain⟨hl,e⟩:=e80 e;cases e;obtain⟨p,xs,rfl,h1,h2⟩:=hx.c61;obtain⟨p',ys,rfl,h3,h4⟩:=hy.c61;exact U91 pins s σ H _ _ v u Q I rx ry ⟨p,p',xs,ys,rfl,rfl,h1.same (a20 zA H),h3.same (a20 zA H),g10 (by rw[h2.length,h4.length];exact hl),λr hr=>q _ _ (a40.new _ hr) (s30 st (h2.append h4) hr)⟩
  |_=>cases e
 |_=>cases e
theorem V21:OpR X (Ã6 .Sub) (rD2 X.K (x90 .sub)):=by
 intro pins s σ H x y v u Q I rx ry h;obtain⟨zA,z,dx,dy,w,st,hx,hy,e,q⟩:=h;cases dx with
 |int i =>
  cases dy with
  |int j =>
   cases e;cases hx.h60;cases hy.h60;exact f02 pins s σ H _ _ v u Q I rx ry ⟨i,j,rfl,rfl,q _ _ (a40.refl H) j10⟩
  |_=>cases e
 |_=>cases e
theorem V31:OpR X (Ã6 .Mult) (rD2 X.K (x90 .mul)):=by
 intro pins s σ H x y v u Q I rx ry h;obtain⟨zA,z,dx,dy,w,st,hx,hy,e,q⟩:=h;cases dx with
 |int i =>
  cases dy with
  |int j =>
   obtain⟨hl,e⟩:=e80 e;cases e;cases hx.h60;cases hy.h60;obtain⟨t,rfl⟩:=rx;obtain⟨t',rfl⟩:=ry;exact mul_int ⟨.int (i * j),H,I.tok _,⟨_,rfl⟩,q _ _ (a40.refl H) j10⟩ (N51 hl.1 hl.2)
  |_=>cases e
 |tup a =>
  cases dy with
  |int j =>
   obtain⟨hl,e⟩:=e80 e;cases e;cases hy.h60;obtain⟨p,xs,rfl,h1,h2⟩:=hx.B40;exact T41 pins s σ H _ _ v u Q I rx ry ⟨p,j,xs,rfl,rfl,(a20 zA H).sqT h1,hl.1,hl.2.2,g10 (by rw[h2.length];exact hl.2.1),tupQ st (h2.rep _) q⟩
  |_=>cases e
 |lst a =>
  cases dy with
  |int j =>
   obtain⟨hl,e⟩:=e80 e;cases e;cases hy.h60;obtain⟨p,xs,rfl,h1,h2⟩:=hx.c61;exact V01 pins s σ H _ _ v u Q I rx ry ⟨p,j,xs,rfl,rfl,h1.same (a20 zA H),by omega,by omega,g10 (by rw[h2.length,Ö2];exact hl.2.1),λr hr=>q _ _ (a40.new _ hr) (s30 st (h2.rep _) hr)⟩
  |_=>cases e
 |_=>cases e
theorem H01:OpR X (Ã6 .FloorDiv) (rD2 X.K (x90 .fdiv)):=by
 intro pins s σ H x y v u Q I rx ry h;obtain⟨zA,z,dx,dy,w,st,hx,hy,e,q⟩:=h;cases dx with
 |int i =>
  cases dy with
  |int j =>
   obtain⟨hl,e⟩:=e80 e;cases e;cases hx.h60;cases hy.h60;obtain⟨t,rfl⟩:=rx;obtain⟨t',rfl⟩:=ry;refine floordiv_int ∅ ⟨.int (i / j),H,I.tok _,⟨s.toks,?_⟩,q _ _ (a40.refl H) j10⟩ (.inl (s51 hl.2))
   rw[Int.fdiv_eq_ediv_of_nonneg _ ∅]
  |_=>cases e
 |_=>cases e
theorem V41:OpR X (Ã6 .Mod) (rD2 X.K (x90 .mod)):=by
 intro pins s σ H x y v u Q I rx ry h;obtain⟨zA,z,dx,dy,w,st,hx,hy,e,q⟩:=h;cases dx with
 |int i =>
  cases dy with
  |int j =>
   obtain⟨hl,e⟩:=e80 e;cases e;cases hx.h60;cases hy.h60;exact f12 pins s σ H _ _ v u Q I rx ry ⟨i,j,rfl,rfl,hl,q _ _ (a40.refl H) j10⟩
  |_=>cases e
 |_=>cases e
theorem V51:OpR X (Ã6 .Pow) (rD2 X.K (x90 .pow)):=by
 intro pins s σ H x y v u Q I rx ry h;obtain⟨zA,z,dx,dy,w,st,hx,hy,e,q⟩:=h;cases dx with
 |int i =>
  cases dy with
  |int j =>
   obtain⟨hl,e⟩:=e80 e;cases e;cases hx.h60;cases hy.h60;exact f22 pins s σ H _ _ v u Q I rx ry ⟨i,j,rfl,rfl,⟨hl.1,by omega,hl.2.2⟩,q _ _ (a40.refl H) j10⟩
  |_=>cases e
 |_=>cases e
def opB:Bi->Ì9
 |.add=>.Add | .sub=>.Sub | .mul=>.Mult | .fdiv=>.FloorDiv | .mod=>.Mod | .pow=>.Pow
theorem opD(o:Bi):OpR X (Ã6 (opB o)) (rD2 X.K (x90 o)):=by
 cases o
 ·exact V11
 ·exact V21
 ·exact V31
 ·exact H01
 ·exact V41
 ·exact V51
mutual
noncomputable def toP:D->PyData
 |.non=>.none|.bl b=>.bool b|.int i=>.int i|.str x=>.str x|.tup l=>.tuple (P70 l)|.lst l=>.list (P70 l)|.dct=>.none
noncomputable def P70:List D->List PyData
 |[]=>[]|x::r=>toP x::P70 r
end
end
end Q
namespace Q
open PySem L2 PySem.Spec PyProof.Rows
variable [TB:Tb]
mutual
theorem S80:∀ a b:D,x80 a=true->x80 b=true->Ù3 (toP a) (toP b)=eqD a b
 |.non,b,_,h=>by cases b <;> first | rfl | (simp[x80] at h)
 |.bl _,b,_,h=>by cases b <;> first | rfl | (simp[x80] at h)
 |.int _,b,_,h=>by cases b <;> first | rfl | (simp[x80] at h)
 |.str _,b,_,h=>by cases b <;> first | rfl | (simp[x80] at h)
 |.tup l,b,ha,h=>by
  cases b with
  |tup q =>
   exact Y10 l q (by simpa [x80] using ha) (by simpa [x80] using h)
  |dct=>simp[x80] at h|_=>rfl
 |.lst l,b,ha,h=>by
  cases b with
  |lst q =>
   exact Y10 l q (by simpa [x80] using ha) (by simpa [x80] using h)
  |dct=>simp[x80] at h|_=>rfl
 |.dct,_,h,_=>by simp[x80] at h
theorem Y10:∀ a b:List D,h90 a=true->h90 b=true->PyData.eqvAll (P70 a) (P70 b)=h82 a b
 |[],[],_,_=>rfl|[],_::_,_,_=>rfl|_::_,[],_,_=>rfl
 |x::r,y::q,ha,hb=>by
  simp only[h90,À] at ha hb;simp only[P70,PyData.eqvAll,h82];rw[S80 x y ha.1 hb.1,Y10 r q ha.2 hb.2]
end
mutual
theorem z50:∀ a:D,x80 a=true->(toP a).canLay0=true
 |.non,_=>rfl|.bl _,_=>rfl|.int _,_=>rfl|.str _,h=>h|.tup l,h=>t20 l h|.lst l,h=>t20 l h|.dct,h=>by cases h
theorem t20:∀ a:List D,h90 a=true->PyData.canLayAll0 (P70 a)=true
 |[],_=>rfl
 |x::r,h=>by
  simp only[h90,À] at h;simp only[P70,PyData.canLayAll0,z50 x h.1,t20 r h.2,Bool.and_self]
end
mutual
theorem L40:∀ a:D,(toP a).depth=deep a
 |.non=>rfl|.bl _=>rfl|.int _=>rfl|.str _=>rfl|.tup l=>congrArg (· + 1) (L50 l)|.lst l=>congrArg (· + 1) (L50 l)|.dct=>rfl
theorem L50:∀ a:List D,Ð5 (P70 a)=l80 a
 |[]=>rfl
 |x::r=>by
  simp only[P70,Ð5,l80];rw[L40 x,L50 r]
end
def k21(h:õ)(u:Ä)(d:D):Prop:=x80 d=true/\∃ as,Reads h u (toP d) as
def e50(h:õ)(us:List Ä)(ds:List D):Prop:=h90 ds=true/\∃ as,ReadsAll h us (P70 ds) as
section
variable {X:Cx}{pins:List (È × Obj)}{σ:L2.St}{H:Hp}{s:Æ}
mutual
theorem j20(I:Inv X pins σ H s):∀ {d:D}{v:V}{u:Ä},Hd X.K H d v->RelV v u->x80 d=true->∃ as,Reads s.heap u (toP d) as
 |.non,_,_,h,r,_=>by cases h.x52;cases r;exact⟨_,.none⟩
 |.bl b,_,_,h,r,_=>by cases h.bl_;cases r;exact⟨_,.bool b⟩
 |.int i,_,_,h,r,_=>by cases h.h60;obtain⟨t,rfl⟩:=r;exact⟨_,.int i t⟩
 |.str x,_,_,h,r,_=>by cases h.x62;obtain⟨t,rfl⟩:=r;exact⟨_,.str x t⟩
 |.tup l,_,_,h,r,f=>by
  obtain⟨a,xs,rfl,h1,h2⟩:=h.B40;cases r;obtain⟨its,rv,⟨o,e1,e2,n,e3⟩,_⟩:=I.tuple h1;obtain⟨as,ra⟩:=D90 I h2 rv f;exact⟨_,.tuple e1 e2 e3 (by simpa using ra)⟩
 |.lst l,_,_,h,r,f=>by
  obtain⟨a,xs,rfl,h1,h2⟩:=h.c61;cases r;obtain⟨its,rv,⟨o,n,e1,e2,_,e3⟩,_⟩:=I.list h1.sq;obtain⟨as,ra⟩:=D90 I h2 rv f;exact⟨_,.list e1 e2 e3 (by simpa using ra)⟩
 |.dct,_,_,_,_,f=>by cases f
theorem D90(I:Inv X pins σ H s):∀ {ds:List D}{vs:List V}{us:List Ä},HdA X.K H ds vs->Vals vs us->h90 ds=true->∃ as,ReadsAll s.heap us (P70 ds) as
 |[],_,_,h,r,_=>by cases h.f30;cases r;exact⟨_,.nil⟩
 |d::ds,_,_,h,r,f=>by
  obtain⟨x,xs,rfl,h1,h2⟩:=h.c00;cases r with
  |cons r1 r2 =>
   simp only[h90,À] at f;obtain⟨_,a1⟩:=j20 I h1 r1 f.1;obtain⟨_,a2⟩:=D90 I h2 r2 f.2;exact⟨_,.cons a1 a2⟩
end
end
theorem o80(h:okD d=true):x80 d=true/\SeqAt.shaped (toP d)=true:=by
 unfold okD at h;rw[À,decide_eq_true_eq] at h;refine⟨h.1,?_⟩;unfold SeqAt.shaped;rw[z50 d h.1,L40,Æ3,decide_eq_true_eq];omega
section
variable {X:Cx}
theorem i22(h:eqE a b=some c):∃ l,a=.tup l/\b=.tup []/\c=l.isEmpty:=by
 unfold eqE at h;split at h
 ·cases h;exact⟨_,rfl,rfl,rfl⟩
 ·cases h
theorem i32(hu:X.A.units + 64 < Ä9):OpR X (ú .Eq) (rD2 X.K λa b=>(eqQ a b).map λc=>.d (.bl c)):=by
 intro pins s σ H x y v u Q I rx ry h;obtain⟨zA,z,dx,dy,w,st,hx,hy,e,q⟩:=h;unfold eqQ at e;dsimp only at e;split at e
 ·rename_i ok;cases e;rw[À] at ok;obtain⟨f1,s1⟩:=o80 ok.1;obtain⟨f2,s2⟩:=o80 ok.2;obtain⟨as,r1⟩:=j20 I (hx.same (a20 zA H)) rx f1;obtain⟨bs,r2⟩:=j20 I (hy.same (a20 zA H)) ry f2;exact eq_dataH r1 r2 s1 s2 hu ⟨.bl _,H,I,rfl,by rw[S80 dx dy f1 f2];exact q _ _ (a40.refl H) k30⟩
 ·obtain⟨c,h1,h2⟩:=Ë.mp e;obtain⟨l,rfl,rfl,rfl⟩:=i22 h1;subst h2;obtain⟨a,xs,rfl,k1,k2⟩:=hx.B40;obtain⟨b,ys,rfl,k3,k4⟩:=hy.B40;cases k4.f30;cases rx;cases ry;obtain⟨its,rv,ht,_⟩:=I.tuple ((a20 zA H).sqT k1);obtain⟨iu,ru,hu2,_⟩:=I.tuple ((a20 zA H).sqT k3);cases ru;have e1:its.length=l.length:=by rw[← rv.length,k2.length]
  refine SeqAt.eq_tupleAt (e:=λ_=>true) ht hu2 ∅ (λj _ h2=>absurd h2 (Ú4 j)) ⟨.bl _,H,I,rfl,?_⟩
  have e2:((Û (min its.toArray.size ([]:List Ä).toArray.size)).all (λ_=>true)&&its.toArray.size == ([]:List Ä).toArray.size)=l.isEmpty:=by
   simp only[Ô,Â4,Nat.min_zero,List.range_zero,List.all_nil,Æ3,e1];cases l <;> rfl
  rw[e2];exact q _ _ (a40.refl H) k30
theorem i42(hu:X.A.units + 64 < Ä9):OpR X (ú .NotEq) (rD2 X.K λa b=>(eqO a b).map λc=>.d (.bl !c)):=by
 intro pins s σ H x y v u Q I rx ry h;obtain⟨zA,z,dx,dy,w,st,hx,hy,e,q⟩:=h;unfold eqO at e;dsimp only at e;split at e
 ·rename_i ok;cases e;rw[À] at ok;obtain⟨f1,s1⟩:=o80 ok.1;obtain⟨f2,s2⟩:=o80 ok.2;obtain⟨as,r1⟩:=j20 I (hx.same (a20 zA H)) rx f1;obtain⟨bs,r2⟩:=j20 I (hy.same (a20 zA H)) ry f2;exact ne_dataH r1 r2 s1 s2 hu ⟨.bl _,H,I,rfl,by rw[S80 dx dy f1 f2];exact q _ _ (a40.refl H) k30⟩
 ·cases e
theorem V61(hu:X.A.units + 64 < Ä9):OpR X (ú .NotEq) (rD2 X.K λa b=>(neO a b).map λc=>.d (.bl c)):=by
 intro pins s σ H x y v u Q I rx ry h;obtain⟨zA,z,dx,dy,w,st,hx,hy,e,q⟩:=h;unfold neO at e;dsimp only at e;split at e
 ·cases e;unfold Hd at hx;obtain⟨a,kvs,rfl,h1⟩:=hx;obtain⟨b,xs,rfl,h2,_⟩:=hy.B40;exact T81 hu pins s σ H _ _ v u Q I rx ry ⟨a,b,kvs,xs,rfl,rfl,(o70 h1).1,(a20 zA H).sqT h2,q _ _ (a40.refl H) k30⟩
 ·refine i42 hu pins s σ H _ _ v u Q I rx ry ⟨zA,z,dx,dy,w,st,hx,hy,?_,q⟩;rw[← e,Option.map_map];rfl
end
theorem L60(h:c02 l=true):h90 l=true/\l80 l<=39:=by
 unfold c02 at h;rw[À,decide_eq_true_eq] at h;exact h
theorem L70(h:okD d=true):deep d<=40:=by
 unfold okD at h;rw[À,decide_eq_true_eq] at h;exact h.2
theorem E00(x:D)(fx:x80 x=true):∀ l:List D,h90 l=true->((P70 l).any λy=>Ù3 y (toP x))=memD x l
 |[],_=>rfl
 |y::r,h=>by
  simp only[h90,À] at h;show(Ù3 (toP y) (toP x) || (P70 r).any λy=>Ù3 y (toP x))=(eqD y x || memD x r);rw[S80 y x h.1 fx,E00 x fx r h.2]
section
variable {X:Cx}
theorem L80(h:C41 x l=some b):okD x=true/\c02 l=true/\b=memD x l:=by
 unfold C41 at h;split at h
 ·rename_i ok;rw[À] at ok;cases h;exact⟨ok.1,ok.2,rfl⟩
 ·cases h
theorem room_in{A:À3}(hu:A.units + 64 < Ä9){l:List D}{x:D}(h:okD x=true):A.units + 1 + min (Ð5 (P70 l)) (toP x).depth < cLine:=by
 have h1:=L70 h;have h2:min (Ð5 (P70 l)) (toP x).depth<=(toP x).depth:=Nat.min_le_right _ _;have h3:=L40 x;omega
theorem V71(hu:X.A.units + 64 < Ä9):OpR X (ú .In) (rD2 X.K λa b=>(H80 .mem a b).map λc=>.d (.bl c)):=by
 intro pins s σ H x y v u Q I rx ry h;obtain⟨zA,z,dx,dy,w,st,hx,hy,e,q⟩:=h;cases dy with
 |tup l =>
  obtain⟨b,e1,e2⟩:=Ë.mp e;subst e2;obtain⟨o1,o2,rfl⟩:=L80 e1;obtain⟨f2,_⟩:=L60 o2;obtain⟨f1,_⟩:=o80 o1;obtain⟨as,r1⟩:=j20 I (hx.same (a20 zA H)) rx f1;obtain⟨bs,r2⟩:=j20 I (hy.same (a20 zA H)) ry (by simpa [x80] using f2)
  exact SeqAt.in_tuple_reads r2 r1 (t20 l f2) (z50 dx f1) (room_in hu o1) ⟨.bl _,H,I,rfl,by rw[E00 dx f1 l f2];exact q _ _ (a40.refl H) k30⟩
 |lst l =>
  obtain⟨b,e1,e2⟩:=Ë.mp e;subst e2;obtain⟨o1,o2,rfl⟩:=L80 e1;obtain⟨f2,_⟩:=L60 o2;obtain⟨f1,_⟩:=o80 o1;obtain⟨as,r1⟩:=j20 I (hx.same (a20 zA H)) rx f1;obtain⟨bs,r2⟩:=j20 I (hy.same (a20 zA H)) ry (by simpa [x80] using f2)
  exact SeqAt.in_list_reads r2 r1 (t20 l f2) (z50 dx f1) (room_in hu o1) ⟨.bl _,H,I,rfl,by rw[E00 dx f1 l f2];exact q _ _ (a40.refl H) k30⟩
 |_=>cases e
theorem H11(hu:X.A.units + 64 < Ä9):OpR X (ú .NotIn) (rD2 X.K λa b=>(H80 .nmem a b).map λc=>.d (.bl c)):=by
 intro pins s σ H x y v u Q I rx ry h;obtain⟨zA,z,dx,dy,w,st,hx,hy,e,q⟩:=h;cases dy with
 |tup l =>
  obtain⟨b,e1,e2⟩:=Ë.mp e;subst e2;obtain⟨b',e3,rfl⟩:=Ë.mp e1;obtain⟨o1,o2,rfl⟩:=L80 e3;obtain⟨f2,_⟩:=L60 o2;obtain⟨f1,_⟩:=o80 o1;obtain⟨as,r1⟩:=j20 I (hx.same (a20 zA H)) rx f1;obtain⟨bs,r2⟩:=j20 I (hy.same (a20 zA H)) ry (by simpa [x80] using f2)
  exact SeqAt.notIn_tuple_reads r2 r1 (t20 l f2) (z50 dx f1) (room_in hu o1) ⟨.bl _,H,I,rfl,by rw[E00 dx f1 l f2];exact q _ _ (a40.refl H) k30⟩
 |lst l =>
  obtain⟨b,e1,e2⟩:=Ë.mp e;subst e2;obtain⟨b',e3,rfl⟩:=Ë.mp e1;obtain⟨o1,o2,rfl⟩:=L80 e3;obtain⟨f2,_⟩:=L60 o2;obtain⟨f1,_⟩:=o80 o1;obtain⟨as,r1⟩:=j20 I (hx.same (a20 zA H)) rx f1;obtain⟨bs,r2⟩:=j20 I (hy.same (a20 zA H)) ry (by simpa [x80] using f2)
  exact SeqAt.notIn_list_reads r2 r1 (t20 l f2) (z50 dx f1) (room_in hu o1) ⟨.bl _,H,I,rfl,by rw[E00 dx f1 l f2];exact q _ _ (a40.refl H) k30⟩
 |_=>cases e
end
end Q
namespace Q
open PySem L2 PySem.Spec PyProof.Rows
variable [TB:Tb]
def x92(A:À3)(s:Æ)(v u:Ä)(b:Bool):Prop:=∀ (P:ã) (w:ü) (E:Ä->Æ->Prop) (Q:Ä->Æ->Prop),Q (.bool b) s->Ñ (Ü P w) A (richCompare .Lt v u) Q E s
section
open PySem.SeqAt
open PySem.AutoSeq1 (wpAny_loadPart')
open PySem.MeetsSeq PySem.MeetsSeq2 PySem.MeetsSeq3
inductive Lx (A:Around) (s:Shared):List Value->List Value->Bool->Prop
 |nn:Lx A s [] [] false
 |nc {u us}:Lx A s [] (u::us) true
 |cn {v vs}:Lx A s (v::vs) [] false
 |eq {v u vs us b}:EqAt A s v u true->Lx A s vs us b->Lx A s (v::vs) (u::us) b
 |ne {v u vs us b}:EqAt A s v u false->x92 A s v u b->Lx A s (v::vs) (u::us) b
theorem E10(l b:È)(items items2:Array Ä)(n n2:Nat)(dd dd2:Option È)(sl sl2:Array (Option Ä))(c:Bool) :
  Meets (Å6.«tuple.__lt__» ⟨[.ref l,.ref b],[]⟩)
   (λA R s=>s.heap.get? l=some { cls:=.type "tuple",dict:=dd,data:=.seq items n,slots:=sl }/\s.heap.get? b=some { cls:=.type "tuple",dict:=dd2,data:=.seq items2 n2,slots:=sl2 } /\
    Lx A.in1 s items.toList items2.toList c/\R (.ok (.ret (.bool c))) s) :=
 .of_wp λprog w A R s h=>by
  obtain⟨hp,g,d,tk,os⟩:=s;obtain⟨hl,hb,hx,h⟩:=h;have f2:=Ù5
  wp_walk using Ã7 hl,Ã7 hb,wpAny_forIn_list _ (λrest b s'=>b.1=none/\s'=⟨hp,g,d,tk,os⟩/\∃ (vs ws:List Ä),rest=vs.zip ws /\
   vs.length + items2.size=ws.length + items.size/\Lx A.in1 ⟨hp,g,d,tk,os⟩ vs ws c) _
  case turn =>
   rintro ⟨y,x⟩ rest b s' ⟨hb',rfl,vs,ws,hz,hlen,hR⟩;cases hR with
   |nn=>rw[Õ8] at hz;cases hz
   |nc=>rw[Õ8] at hz;cases hz
   |cn=>rw[List.zip_nil_right] at hz;cases hz
   |eq he hr =>
    rw[È5] at hz;injection hz with hyx hrest;injection hyx with hy hx';subst hy hx';simp only[Ú] at hlen;refine Á (he prog w _ _ ?_)
    wp_walk
    exact⟨rfl,rfl,_,_,hrest,by omega,hr⟩
   |ne he hr =>
    rw[È5] at hz;injection hz with hyx hrest;injection hyx with hy hx';subst hy hx';refine Á (he prog w _ _ ?_);have hri:=λE Q q=>hr prog w E Q q
    wp_walk using hri
    exact⟨_,rfl,by simpa using h⟩
  case fin =>
   rintro ⟨b1,b2⟩ s' ⟨hb',rfl,vs,ws,hz,hlen,hR⟩;simp only at hb';subst hb';have hv:c=decide (items.size < items2.size):=by
    cases hR with
    |nn=>simp only[Â4] at hlen;exact(decide_eq_false ∅).symm|nc=>simp only[Â4,Ú] at hlen;exact(decide_eq_true ∅).symm|cn=>simp only[Â4,Ú] at hlen;exact(decide_eq_false ∅).symm|eq he hr=>rw[È5] at hz;cases hz
    |ne he hr=>rw[È5] at hz;cases hz
   rw[hv] at h
   wp_walk
   exact⟨_,rfl,by simpa [tupleCompareSizes] using h⟩
  case h =>
   exact⟨rfl,rfl,items.toList,items2.toList,rfl,by simp;omega,hx⟩
end
theorem s61(hl:Í0 s.heap l i1)(hb:Í0 s.heap b i2)(hu:A.units < Ä9)(hx:Lx A.in1 s i1.toList i2.toList c):x92 A s (.ref l) (.ref b) c:=by
 intro P w E Q h;obtain⟨⟨cls,dd,data,sl⟩,ho,hc,n,hd⟩:=id hl;obtain⟨⟨cls2,dd2,data2,sl2⟩,ho2,hc2,n2,hd2⟩:=id hb;simp only at hc hd hc2 hd2;subst hc hd hc2 hd2;exact richCompare_meets_room (op:=.Lt) ⟨_,ho,rfl⟩ ⟨_,ho2,rfl⟩ Ð4 Û8 (Û2 _ _) (E10 l b i1 i2 n n2 dd dd2 sl sl2 c)
  ⟨ho,ho2,hx,show Ì7 c≠Ñ6/\Q (.bool c) s from⟨(λx=>nomatch x),h⟩⟩ hu
theorem i52(ha:k21 s.heap v a)(hb:k21 s.heap u b)(hu:A.units + deep a < Ä9):Ô2 A s v u (eqD a b):=by
 obtain⟨f1,as,r1⟩:=ha;obtain⟨f2,bs,r2⟩:=hb;rw[← S80 a b f1 f2];have h:=L40 a;have h2:min (toP a).depth (toP b).depth<=(toP a).depth:=Nat.min_le_left _ _;exact SeqAt.eqAt_reads (toP a) (toP b) A s v u as bs r1 r2 (z50 a f1) (z50 b f2) ∅
theorem e50.c00(x:e50 h us (d::ds)):∃ u r,us=u::r/\k21 h u d/\e50 h r ds:=by
 obtain⟨f,as,r⟩:=x;simp only[h90,À] at f;cases r with
 |cons r1 r2=>exact⟨_,_,rfl,⟨f.1,_,r1⟩,f.2,_,r2⟩
theorem e50.f30(x:e50 h us []):us=[]:=by
 obtain⟨_,as,r⟩:=x;cases r;rfl
theorem in1_units(A:À3):A.in1.units=A.units + 1:=rfl
theorem V81:∀ (n:Nat) {A:À3}{s:Æ},
  (∀ (a b:D) (v u:Ä) (c:Bool),deep a<=n->k21 s.heap v a->k21 s.heap u b->ltD a b=some c->A.units + n < Ä9->x92 A s v u c) /\
  (∀ (a b:List D) (vs us:List Ä) (c:Bool),l80 a < n->e50 s.heap vs a->e50 s.heap us b->G51 a b=some c->A.units + n < Ä9->Lx A.in1 s vs us c):=by
 intro n
 induction n with
 |zero =>
  intro A s;refine⟨λa b v u c hd ha hb e hu=>?_,λa b vs us c hd=>absurd hd (Ú4 _)⟩;cases a with
  |int i =>
   cases b with
   |int j =>
    cases e;obtain⟨_,_,r1⟩:=ha;obtain⟨_,_,r2⟩:=hb;cases r1;cases r2;exact λP w E Q h=>HT.b61 A s i _ j _ P w E Q h
   |_=>cases e
  |tup l=>simp[deep] at hd|_=>cases e
 |succ n ih =>
  have rows:∀ {A:À3}{s:Æ} (a b:List D) (vs us:List Ä) (c:Bool),l80 a < n + 1->e50 s.heap vs a->e50 s.heap us b->G51 a b=some c->A.units + (n + 1) < Ä9->Lx A.in1 s vs us c:=by
   intro A s a
   induction a with
   |nil =>
    intro b vs us c _ ha hb e hu;cases ha.f30;cases b with
    |nil=>cases hb.f30;cases e;exact .nn
    |cons y q=>obtain⟨u,r,rfl,_⟩:=hb.c00;cases e;exact .nc
   |cons x r ihr =>
    intro b vs us c hd ha hb e hu;obtain⟨v,vs',rfl,a1,a2⟩:=ha.c00;cases b with
    |nil=>cases hb.f30;cases e;exact .cn
    |cons y q =>
     obtain⟨u,us',rfl,b1,b2⟩:=hb.c00;simp only[l80] at hd;have d1:deep x<=n:=Nat.le_of_lt_succ (È9 (Nat.le_max_left _ _) hd);have d2:l80 r < n + 1:=È9 (Nat.le_max_right _ _) hd;have hu1:A.in1.units + n < cLine:=by rw[in1_units];omega
     have he:=i52 (A:=A.in1) a1 b1 ∅
     simp only[G51] at e;cases hq:eqD x y with
     |true =>
      rw[hq] at he e;exact .eq he (ihr q vs' us' c d2 a2 b2 (by simpa using e) hu)
     |false =>
      rw[hq] at he e;exact .ne he ((ih (A:=A.in1) (s:=s)).1 x y v u c d1 a1 b1 (by simpa using e) hu1)
  intro A s;refine⟨λa b v u c hd ha hb e hu=>?_,rows⟩;cases a with
  |int i =>
   cases b with
   |int j =>
    cases e;obtain⟨_,_,r1⟩:=ha;obtain⟨_,_,r2⟩:=hb;cases r1;cases r2;exact λP w E Q h=>HT.b61 A s i _ j _ P w E Q h
   |_=>cases e
  |tup l =>
   cases b with
   |tup q =>
    obtain⟨f1,as,r1⟩:=ha;obtain⟨f2,bs,r2⟩:=hb;simp only[deep] at hd;cases r1 with
    |tuple k1 k2 k3 k4 =>
     cases r2 with
     |tuple m1 m2 m3 m4 =>
      exact s61 ⟨_,k1,k2,_,k3⟩ ⟨_,m1,m2,_,m3⟩ ∅ (rows l q _ _ c ∅ ⟨by simpa [x80] using f1,_,k4⟩ ⟨by simpa [x80] using f2,_,m4⟩ e hu)
   |_=>cases e
  |_=>cases e
section
variable {X:Cx}
theorem i62(h:ltO a b=some c):okD a=true/\okD b=true/\ltD a b=some c:=by
 unfold ltO at h;split at h
 ·rename_i ok;rw[À] at ok;exact⟨ok.1,ok.2,h⟩
 ·cases h
theorem i72(hu:X.A.units + 64 < Ä9):OpR X (ú .Lt) (rD2 X.K λa b=>(H80 .lt a b).map λc=>.d (.bl c)):=by
 intro pins s σ H x y v u Q I rx ry h;obtain⟨zA,z,dx,dy,w,st,hx,hy,e,q⟩:=h;obtain⟨b,e1,e2⟩:=Ë.mp e;subst e2;obtain⟨o1,o2,e3⟩:=i62 (show ltO dx dy=some b from e1);obtain⟨f1,_⟩:=o80 o1;obtain⟨f2,_⟩:=o80 o2;obtain⟨as,r1⟩:=j20 I (hx.same (a20 zA H)) rx f1;obtain⟨bs,r2⟩:=j20 I (hy.same (a20 zA H)) ry f2;exact(V81 40 (A:=X.A) (s:=s)).1 dx dy v u b (L70 o1) ⟨f1,as,r1⟩ ⟨f2,bs,r2⟩ e3 ∅ _ _ _ _ ⟨.bl b,H,I,rfl,q _ _ (a40.refl H) k30⟩
theorem Y20{K:Â}{H:Hp}:∀ {l:List D}{ns:List Int}{vs:List V},y20 l=some ns->HdA K H l vs->vs=ns.map V.int/\l=ns.map D.int
 |[],_,_,e,h=>by cases e;rw[h.f30];exact⟨rfl,rfl⟩
 |.int i::r,_,_,e,h=>by
  obtain⟨ms,e1,rfl⟩:=Ë.mp e;obtain⟨x,xs,rfl,h1,h2⟩:=h.c00;cases h1.h60;obtain⟨rfl,rfl⟩:=Y20 e1 h2;exact⟨rfl,rfl⟩
 |.non::_,_,_,e,_=>by cases e
 |.bl _::_,_,_,e,_=>by cases e
 |.str _::_,_,_,e,_=>by cases e
 |.tup _::_,_,_,e,_=>by cases e
 |.lst _::_,_,_,e,_=>by cases e
 |.dct::_,_,_,e,_=>by cases e
theorem i82(hu:X.A.units + 64 < Ä9):OpR X (ú .LtE) (rD2 X.K λa b=>(H80 .le a b).map λc=>.d (.bl c)):=by
 intro pins s σ H x y v u Q I rx ry h;obtain⟨zA,z,dx,dy,w,st,hx,hy,e,q⟩:=h;cases dx with
 |int i =>
  cases dy with
  |int j =>
   cases e;cases hx.h60;cases hy.h60;exact v22 pins s σ H _ _ v u Q I rx ry ⟨i,j,rfl,rfl,q _ _ (a40.refl H) k30⟩
  |_=>cases e
 |tup a =>
  cases dy with
  |tup b =>
   obtain⟨c,e1,e2⟩:=Ë.mp e;subst e2;obtain⟨ns,n1,e1⟩:=Î.mp (show(y20 a).bind _=_ from e1);obtain⟨ms,n2,rfl⟩:=Ë.mp e1;obtain⟨p,xs,rfl,h1,h2⟩:=hx.B40;obtain⟨p',ys,rfl,h3,h4⟩:=hy.B40;obtain⟨rfl,_⟩:=Y20 n1 h2;obtain⟨rfl,_⟩:=Y20 n2 h4;exact h02 ∅ pins s σ H _ _ v u Q I rx ry ⟨p,p',ns,ms,rfl,rfl,(a20 zA H).sqT h1,(a20 zA H).sqT h3,q _ _ (a40.refl H) k30⟩
  |_=>cases e
 |_=>cases e
theorem i92:OpR X (ú .Gt) (rD2 X.K λa b=>(H80 .gt a b).map λc=>.d (.bl c)):=by
 intro pins s σ H x y v u Q I rx ry h;obtain⟨zA,z,dx,dy,w,st,hx,hy,e,q⟩:=h;cases dx with
 |int i =>
  cases dy with
  |int j =>
   cases e;cases hx.h60;cases hy.h60;exact v32 pins s σ H _ _ v u Q I rx ry ⟨i,j,rfl,rfl,q _ _ (a40.refl H) k30⟩
  |_=>cases e
 |_=>cases e
theorem j02:OpR X (ú .GtE) (rD2 X.K λa b=>(H80 .ge a b).map λc=>.d (.bl c)):=by
 intro pins s σ H x y v u Q I rx ry h;obtain⟨zA,z,dx,dy,w,st,hx,hy,e,q⟩:=h;cases dx with
 |int i =>
  cases dy with
  |int j =>
   cases e;cases hx.h60;cases hy.h60;exact v42 pins s σ H _ _ v u Q I rx ry ⟨i,j,rfl,rfl,q _ _ (a40.refl H) k30⟩
  |_=>cases e
 |_=>cases e
theorem s22{K:Â}{H:Hp}{d:D}{v:V}(h:Hd K H d v):decide (v=.non)=h92 d:=by
 cases d with
 |non=>cases h.x52;rfl
 |bl b=>cases h.bl_;rfl
 |int i=>cases h.h60;rfl
 |str x=>cases h.x62;rfl
 |tup l=>obtain⟨a,xs,rfl,_⟩:=h.B40;rfl
 |lst l=>obtain⟨a,xs,rfl,_⟩:=h.c61;rfl
 |dct=>unfold Hd at h;obtain⟨a,kvs,rfl,_⟩:=h;rfl
def opC:Cm->CmpOp
 |.eq=>.Eq | .ne=>.NotEq | .lt=>.Lt | .le=>.LtE | .gt=>.Gt | .ge=>.GtE | .mem=>.In | .nmem=>.NotIn
theorem c22(hu:X.A.units + 64 < Ä9)(o:Cm):OpR X (ú (opC o)) (rD2 X.K λa b=>(H80 o a b).map λc=>.d (.bl c)):=by
 cases o
 ·exact i32 hu
 ·exact V61 hu
 ·exact i72 hu
 ·exact i82 hu
 ·exact i92
 ·exact j02
 ·exact V71 hu
 ·exact H11 hu
theorem HdA.one{K:Â}{H:Hp}{d:D}{xs:List V}(h:HdA K H [d] xs):∃ x,xs=[x]/\Hd K H d x:=by
 obtain⟨x,r,rfl,h1,h2⟩:=h.c00;rw[h2.f30];exact⟨x,rfl,h1⟩
theorem HdA.two{K:Â}{H:Hp}{d e:D}{xs:List V}(h:HdA K H [d,e] xs):∃ x y,xs=[x,y]/\Hd K H d x/\Hd K H e y:=by
 obtain⟨x,r,rfl,h1,h2⟩:=h.c00;obtain⟨y,rfl,h3⟩:=h2.one;exact⟨x,y,rfl,h1,h3⟩
theorem c91{K:Â}{zA:Option È}{H:Hp}{d:D}{l:List D}{v:V}(h:Hd K (hz zA H) d v)(e:c51 d=some l):∃ a xs,v=.ref a/\(SqL K H a xs∨SqT K H a xs)/\HdA K (hz zA H) l xs:=by
 cases d with
 |tup m =>
  cases e;obtain⟨a,xs,rfl,h1,h2⟩:=h.B40;exact⟨a,xs,rfl,.inr ((a20 zA H).sqT h1),h2⟩
 |lst m =>
  cases e;obtain⟨a,xs,rfl,h1,h2⟩:=h.c61;exact⟨a,xs,rfl,.inl (h1.same (a20 zA H)).sq,h2⟩
 |_=>cases e
theorem j12:g60 X (.builtin "len") (rDn X.K (bfD .len)):=by
 intro pins s σ H xs us Q I r h;obtain⟨zA,z,ds,w,st,hx,e,q⟩:=h
 match ds,e with
 |[d],e =>
  obtain⟨l,e1,rfl⟩:=Ë.mp (show(c51 d).map _=some w from e);obtain⟨x,rfl,h1⟩:=hx.one;obtain⟨a,ys,rfl,h2,h3⟩:=c91 h1 e1;exact R20 pins s σ H _ us Q I r ⟨a,ys,rfl,h2,by rw[h3.length];exact q _ _ (a40.refl H) j10⟩
theorem H21:g60 X (.type "tuple") (rDn X.K (bfD .tuple)):=by
 intro pins s σ H xs us Q I r h;obtain⟨zA,z,ds,w,st,hx,e,q⟩:=h
 match ds,e with
 |[d],e =>
  obtain⟨l,e1,rfl⟩:=Ë.mp (show(c51 d).map _=some w from e);obtain⟨x,rfl,h1⟩:=hx.one;obtain⟨a,ys,rfl,h2,h3⟩:=c91 h1 e1;refine v40 pins s σ H _ us Q I r ⟨a,ys,rfl,?_⟩;rcases h2 with h2 | h2
  ·refine .inl ⟨h2,λp hp=>q _ _ (a40.new _ hp) (C51 (Hd.tup ((st.same (a40.new _ hp)).N41 (SqT.of b50)) (h3.same (j00 (a40.new _ hp)))))⟩
  ·exact .inr ⟨h2,q _ _ (a40.refl H) (C51 (Hd.tup (st.N41 h2) h3))⟩
theorem V91:g60 X (.type "list") (rDn X.K (bfD .list)):=by
 intro pins s σ H xs us Q I r h;obtain⟨zA,z,ds,w,st,hx,e,q⟩:=h
 match ds,e with
 |[d],e =>
  obtain⟨l,e1,rfl⟩:=Ë.mp (show(c51 d).map _=some w from e);obtain⟨x,rfl,h1⟩:=hx.one;obtain⟨a,ys,rfl,h2,h3⟩:=c91 h1 e1;exact R30 pins s σ H _ us Q I r ⟨a,ys,rfl,h2,λp hp=>q _ _ (a40.new _ hp) (s30 st h3 hp)⟩
theorem N61{K:Â}{H:Hp}:∀ {l:List D}{bs:List Bool}{vs:List V},l.mapM asB=some bs->HdA K H l vs->vs=bs.map V.bl
 |[],_,_,e,h=>by simp at e;subst e;rw[h.f30];rfl
 |x::r,_,_,e,h=>by
  simp only[mapM_cons,bind,Î] at e;obtain⟨b,e1,bs,e2,e3⟩:=e;cases e3;obtain⟨y,ys,rfl,h1,h2⟩:=h.c00;cases x with
  |bl c=>cases e1;cases h1.bl_;rw[N61 e2 h2];rfl
  |_=>cases e1
theorem j22(hc:X.calm=true):g60 X (.builtin "all") (rDn X.K (bfD .all)):=by
 intro pins s σ H xs us Q I r h;obtain⟨zA,z,ds,w,st,hx,e,q⟩:=h
 match ds,e with
 |[.lst l],e =>
  obtain⟨bs,e1,rfl⟩:=Ë.mp (show(l.mapM asB).map _=some w from e);obtain⟨x,rfl,h1⟩:=hx.one;obtain⟨a,ys,rfl,h2,h3⟩:=h1.c61;rw[N61 e1 h3] at h2;exact E71 hc pins s σ H _ us Q I r ⟨a,bs,rfl,(h2.same (a20 zA H)).sq,q _ _ (a40.refl H) k30⟩
theorem d01:∀ {ns:List Int}{vs:List Ä},Vals (ns.map V.int) vs->∃ xs:List (Int × Tok),vs=xs.map (λp=>.int p.1 p.2)/\xs.map (·.1)=ns
 |[],_,h=>by cases h;exact⟨[],rfl,rfl⟩
 |n::r,_,h=>by
  cases h with
  |cons h1 h2 =>
   obtain⟨t,rfl⟩:=h1;obtain⟨xs,rfl,e⟩:=d01 h2;exact⟨(n,t)::xs,rfl,by rw[Â0,e]⟩
theorem H31(hc:X.calm=true):g60 X (.builtin "sum") (λxs H Q=>∃ (a:È) (ns:List Int),xs=[.ref a]/\(SqL X.K H a (ns.map V.int)∨SqT X.K H a (ns.map V.int))/\Q (.int ns.sum) H):=by
 intro pins s σ H xs us Q I r h;obtain⟨a,ns,rfl,hq,q⟩:=h;obtain⟨u,rfl,rx⟩:=vals1 r;cases rx;have fin:∀ {its:List Ä},Vals (ns.map V.int) its->∃ xs:Array (Int × Tok),its.toArray=intItems xs/\preSum (numAt xs) xs.size=ns.sum:=λ{its} rv=>by
  obtain⟨xs,rfl,e⟩:=d01 rv;exact⟨xs.toArray,by simp[intItems],by rw[preSum_eq,É4 (by simp)];simp[e]⟩
 rcases hq with hq | hq
 ·obtain⟨its,rv,p,_⟩:=I.list hq;obtain⟨xs,e1,e2⟩:=fin rv;exact sum_intListG (I.ok.hd hc) (e1 ▸ p.isList) λh' tk t' k=>⟨.int ns.sum,H,I.kept k,by rw[e2];exact⟨_,rfl⟩,q⟩
 ·obtain⟨its,rv,p,_⟩:=I.tuple hq;obtain⟨xs,e1,e2⟩:=fin rv;exact W.ktm_sumG (I.ok.hd hc) (e1 ▸ p) λh' tk t' k=>⟨.int ns.sum,H,I.kept k,by rw[e2];exact⟨_,rfl⟩,q⟩
theorem N71{K:Â}{H:Hp}:∀ {l:List D}{i:Int}{vs:List V},G81 l=some i->HdA K H l vs->∃ ns:List Int,vs=ns.map V.int/\ns.sum=i
 |[],_,_,e,h=>by cases e;rw[h.f30];exact⟨[],rfl,rfl⟩
 |.int j::r,_,_,e,h=>by
  obtain⟨k,e1,rfl⟩:=Ë.mp (show(G81 r).map _=_ from e);obtain⟨v,q,rfl,h1,h2⟩:=h.c00;obtain⟨ns,rfl,e2⟩:=N71 e1 h2;cases h1.h60;exact⟨j::ns,rfl,by rw[List.sum_cons,e2]⟩
theorem j32(hc:X.calm=true):g60 X (.builtin "sum") (rDn X.K (bfD .sum)):=by
 intro pins s σ H xs us Q I r h;obtain⟨zA,z,ds,w,st,hx,e,q⟩:=h
 match ds,e with
 |[d],e =>
  obtain⟨i,e1,rfl⟩:=Ë.mp (show((c51 d).bind G81).map _=some w from e);obtain⟨l,e2,e3⟩:=Î.mp e1;obtain⟨x,rfl,h1⟩:=hx.one;obtain⟨a,ys,rfl,h2,h3⟩:=c91 h1 e2;obtain⟨ns,rfl,rfl⟩:=N71 e3 h3;exact H31 hc pins s σ H _ us Q I r ⟨a,ns,rfl,h2,q _ _ (a40.refl H) (show Hd X.K (hz zA H) _ _ from Hd.int)⟩
theorem j42(hc:X.calm=true):g60 X (.builtin "min") (rDn X.K (bfD .min)):=by
 intro pins s σ H xs us Q I r h;obtain⟨zA,z,ds,w,st,hx,e,q⟩:=h
 match ds,e with
 |[.int i,.int j],e =>
  cases e;obtain⟨x,y,rfl,h1,h2⟩:=hx.two;cases h1.h60;cases h2.h60;exact o01 hc pins s σ H _ us Q I r ⟨i,j,rfl,q _ _ (a40.refl H) j10⟩
theorem j52(hc:X.calm=true):g60 X (.builtin "max") (rDn X.K (bfD .max)):=by
 intro pins s σ H xs us Q I r h;obtain⟨zA,z,ds,w,st,hx,e,q⟩:=h
 match ds,e with
 |[.int i,.int j],e =>
  cases e;obtain⟨x,y,rfl,h1,h2⟩:=hx.two;cases h1.h60;cases h2.h60;exact n91 hc pins s σ H _ us Q I r ⟨i,j,rfl,q _ _ (a40.refl H) j10⟩
theorem j62:g60 X (.type "int") (rDn X.K (bfD .int)):=by
 intro pins s σ H xs us Q I r h;obtain⟨zA,z,ds,w,st,hx,e,q⟩:=h
 match ds,e with
 |[.int i],e =>
  cases e;obtain⟨x,rfl,h1⟩:=hx.one;cases h1.h60;exact Q30 pins s σ H _ us Q I r (.inl ⟨i,rfl,q _ _ (a40.refl H) j10⟩)
 |[.bl b],e =>
  cases e;obtain⟨x,rfl,h1⟩:=hx.one;cases h1.bl_;exact Q30 pins s σ H _ us Q I r (.inr ⟨b,rfl,q _ _ (a40.refl H) j10⟩)
def tyN:Ty->String
 |.int=>"int" | .bool=>"bool" | .tuple=>"tuple" | .list=>"list" | .str=>"str" | .seq=>""
theorem W01(t:Ty)(d:D)(h:t≠.seq):isB d.ty (tyN t)=s12 t d:=by
 cases t <;> cases d <;> first | rfl | (exact absurd rfl h) | decide
theorem H41(d:D):(isB d.ty "tuple" || isB d.ty "list")=s12 .seq d:=by cases d <;> rfl
theorem at_of{K:Â}{H:Hp}{l:List D}{xs:List V}{i:Int}{d:D}(h:HdA K H l xs)(e:atI l i=some d):∃ v,atI xs i=some v/\Hd K H d v:=by
 unfold atI at e ⊢;obtain⟨j,e1,e2⟩:=Î.mp e;rw[h.length,e1];exact h.get e2
theorem ixD:IxR X (rD2 X.K λa b=>(j81 a b).map S.d):=by
 intro value slice pins s σ H x y v u Q I rx ry h hs;obtain⟨zA,z,dx,dy,w,st,hx,hy,e,q⟩:=h;obtain⟨r,e1,rfl⟩:=Ë.mp e;cases dx with
 |tup l =>
  cases dy with
  |int i =>
   cases hy.h60;obtain⟨a,xs,rfl,h1,h2⟩:=hx.B40;obtain⟨v',e2,h3⟩:=at_of h2 e1;exact f92 value slice pins s σ H _ _ v u Q I rx ry ⟨a,xs,i,v',rfl,rfl,(a20 zA H).sqT h1,e2,q _ _ (a40.refl H) (C51 h3)⟩ hs
  |_=>cases e1
 |lst l =>
  cases dy with
  |int i =>
   cases hy.h60;obtain⟨a,xs,rfl,h1,h2⟩:=hx.c61;obtain⟨v',e2,h3⟩:=at_of h2 e1;exact o71 value slice pins s σ H _ _ v u Q I rx ry ⟨a,xs,i,v',rfl,rfl,(h1.same (a20 zA H)).sq,e2,q _ _ (a40.refl H) (C51 h3)⟩ hs
  |_=>cases e1
 |_=>cases e1
theorem N81{K:Â}{H:Hp}{l:List D}{xs:List V}(h:HdA K H l xs)(lo hi:Option Int):HdA K H (cutD l lo hi) (D81 xs lo hi):=by
 unfold cutD D81;rw[h.length];exact(h.drop _).take _
def M72(K:Â):V->Option Int->Option Int->Hp->VK->Prop:=λx lo hi H Q=>∃ zA z dx s,e20 zA z H/\Hd K (hz zA H) dx x/\slD dx lo hi=some s/\∀ v H',a40 H H'->RvS K zA H H' s v->Q v H'
theorem M82:SlR X (M72 X.K):=by
 intro pins s σ H x v vl vu lo hi sl Q I rx hs pl pu h;obtain⟨zA,z,dx,w,st,hx,e,q⟩:=h;cases dx with
 |tup l =>
  cases e;obtain⟨a,xs,rfl,h1,h2⟩:=hx.B40;exact T51 pins s σ H _ v vl vu lo hi sl Q I rx hs pl pu ⟨a,xs,rfl,(a20 zA H).sqT h1,tupQ st (N81 h2 lo hi) q⟩
 |lst l =>
  cases e;obtain⟨a,xs,rfl,h1,h2⟩:=hx.c61;exact R81 pins s σ H _ v vl vu lo hi sl Q I rx hs pl pu ⟨a,xs,rfl,(h1.same (a20 zA H)).sq,λp hp=>q _ _ (a40.new _ hp) (s30 st (N81 h2 lo hi) hp)⟩
 |_=>cases e
end
end Q
namespace Q
open PySem L2 PySem.Spec PyProof.Rows
open PySem.W (KatLex KatTups kat_nil kat_cons kat_go kat_yes kat_no kat_one kat_lt kat_kind kas_kind kat_lt_int)
theorem E20(k:D):∀ l,(G61 k l).Perm (k::l)
 |[]=>.refl _
 |y::r=>by
  unfold G61;split
  ·exact((E20 k r).cons y).trans (.swap _ _ _)
  ·exact .refl _
theorem y30:∀ l,(D80 l).Perm l
 |[]=>.refl _|k::r=>(E20 k _).trans ((y30 r).cons k)
theorem s71(k:D):∀ l,l.Pairwise (λx y=>MySort.k00 (flt y) (flt x)=false)->(G61 k l).Pairwise (λx y=>MySort.k00 (flt y) (flt x)=false)
 |[],_=>Ü5 _ _
 |y::r,h=>by
  obtain⟨h1,h2⟩:=Í2.mp h;unfold G61;split
  ·rename_i hy;refine Í2.mpr ⟨λz hz=>?_,s71 k r h2⟩;rcases ß.mp ((E20 k r).mem_iff.mp hz) with rfl | hz
   ·cases q:MySort.k00 (flt z) (flt y) with
    |false=>rfl|true=>have:=MySort.q60 _ _ _ hy q;rw[MySort.s90] at this;cases this
   ·exact h1 z hz
  ·rename_i hy;refine Í2.mpr ⟨λz hz=>?_,h⟩;rcases ß.mp hz with rfl | hz
   ·simpa using hy
   ·cases q:MySort.k00 (flt z) (flt k) with
    |false=>rfl
    |true =>
     rcases MySort.b91 _ (flt y) _ q with q | q
     ·rw[h1 z hz] at q;cases q
     ·exact absurd q hy
theorem d11:∀ l,(D80 l).Pairwise (λx y=>MySort.k00 (flt y) (flt x)=false)
 |[]=>.nil|k::r=>s71 k _ (d11 r)
mutual
theorem N91:∀ x y:D,eqT x y=true->x=y
 |.int i,y,h=>by
  cases y with
  |int j=>rw[eq_of_beq (show(i == j)=true from h)]|_=>cases h
 |.tup a,y,h=>by
  cases y with
  |tup b=>rw[Y30 a b h]|_=>cases h
 |.non,y,h=>by cases y <;> cases h
 |.bl _,y,h=>by cases y <;> cases h
 |.str _,y,h=>by cases y <;> cases h
 |.lst _,y,h=>by cases y <;> cases h
 |.dct,y,h=>by cases y <;> cases h
theorem Y30:∀ x y:List D,W20 x y=true->x=y
 |[],[],_=>rfl|[],_::_,h=>by cases h
 |_::_,[],h=>by cases h
 |x::r,y::q,h=>by
  have h:(eqT x y&&W20 r q)=true:=h;rw[À] at h;rw[N91 x y h.1,Y30 r q h.2]
end
variable [TB:Tb]
theorem W11(ok:∀ x∈l,∀ y∈l,flt x=flt y->x=y)(h:MySort.sortedBy (l.map flt) p):(p.map λi=>l.getD i .non)=D80 l:=by
 have h1:=h.1.map λi=>l.getD i .non;rw[Ç,MySort.range_getD] at h1;have e:((p.map λi=>l.getD i .non).map flt)=p.map λi=>(l.map flt).getD i []:=by
  rw[ô];refine Ä0 λi hi=>?_;have:i < l.length:=by have:=h.1.mem_iff.mp hi;simpa using this
  simp[this]
 have h2:(p.map λi=>l.getD i .non).Pairwise λx y=>MySort.k00 (flt y) (flt x)=false:=by
  have:=h.2;rw[← e,List.pairwise_map] at this;exact this
 refine Ù1 (le:=λx y=>MySort.k00 (flt y) (flt x)=false) (λa b ha hb p q=>?_) h2 (d11 l) (h1.trans (y30 l).symm);exact ok a (h1.mem_iff.mp ha) b ((y30 l).mem_iff.mp hb) (MySort.q70 _ _ q p)
mutual
theorem H51(kp:MySort.q31 h h'):∀ (d:D) {u:Ä}{as:List È},eqT d d=true->Reads h u (toP d) as->Reads h' u (toP d) as
 |.int i,_,_,_,r=>by cases r;exact .int _ _
 |.tup l,_,_,e,r=>by
  cases r with
  |tuple k1 k2 k3 k4=>exact .tuple (kp _ _ k1 k2) k2 k3 (o90 kp l e k4)
 |.non,_,_,e,_=>by cases e
 |.bl _,_,_,e,_=>by cases e
 |.str _,_,_,e,_=>by cases e
 |.lst _,_,_,e,_=>by cases e
 |.dct,_,_,e,_=>by cases e
theorem o90(kp:MySort.q31 h h'):∀ (l:List D) {us:List Ä}{as:List È},W20 l l=true->ReadsAll h us (P70 l) as->ReadsAll h' us (P70 l) as
 |[],_,_,_,r=>by cases r;exact .nil
 |x::q,_,_,e,r=>by
  have e:(eqT x x&&W20 q q)=true:=e;rw[À] at e;cases r with
  |cons r1 r2=>exact .cons (H51 kp x e.1 r1) (o90 kp q e.2 r2)
end
theorem e50.get:∀ {us:List Ä}{l:List D}{i:Nat}{d:D},e50 h us l->l[i]?=some d->k21 h (us.getD i å) d
 |_,[],i,d,_,e=>by cases e
 |us,x::r,i,d,hd,e=>by
  obtain⟨u,q,rfl,h1,h2⟩:=hd.c00;cases i with
  |zero=>cases e;simpa using h1
  |succ i=>simpa using e50.get h2 (by simpa using e)
theorem e50.len:∀ {us:List Ä}{l:List D},e50 h us l->us.length=l.length
 |_,[],hd=>by rw[hd.f30];rfl
 |us,x::r,hd=>by
  obtain⟨u,q,rfl,h1,h2⟩:=hd.c00;simp[e50.len h2]
def O01(l:List D):Prop:=∀ x r,l=x::r->∃ i,x=.int i
theorem G82(hu:A.units + 40 < Ä9):∀ (a c:List D) {vs us:List Ä}{r:Bool} (i:Nat),e50 s.heap vs a->e50 s.heap us c->G51 a c=some r->l80 a<=39 ->
  ((b&&i == 0)=true->O01 a/\O01 c)->fin=decide (vs.length < us.length)->Q r s->KatLex P w A b fin Q (vs.zip us) i s
 |[],[],_,_,r,i,ha,hc,e,_,_,hf,q=>by
  cases ha.f30;cases hc.f30;cases e;subst hf;exact kat_nil q
 |[],y::t,_,_,r,i,ha,hc,e,_,_,hf,q=>by
  cases ha.f30;obtain⟨u,us,rfl,_,_⟩:=hc.c00;cases e;subst hf;exact kat_nil q
 |x::l,[],_,_,r,i,ha,hc,e,_,_,hf,q=>by
  cases hc.f30;obtain⟨v,vs,rfl,_,_⟩:=ha.c00;cases e;subst hf;exact kat_nil q
 |x::l,y::t,_,_,r,i,ha,hc,e,hd,hi,hf,q=>by
  obtain⟨v,vs,rfl,a1,a2⟩:=ha.c00;obtain⟨u,us,rfl,c1,c2⟩:=hc.c00;have d1:deep x<=39:=Ù (Nat.le_max_left _ _) hd;have d2:l80 l<=39:=Ù (Nat.le_max_right _ _) hd;have e:(if eqD x y=true then G51 l t else ltD x y)=some r:=e;refine kat_cons (i52 (A:=A) a1 c1 ∅ P w _ _ ?_)
  refine kat_go (λz=>?_) λz=>?_
  ·rw[if_pos z] at e;refine kat_yes (G82 hu l t (i + 1) a2 c2 e d2 (λk=>?_) (by rw[hf];simp) q)
   simp at k
  ·rw[if_neg (by rw[z];exact Ó)] at e
   refine kat_no ?_;cases hb:(b&&i == 0) with
   |true =>
    obtain⟨f1,f2⟩:=hi hb;obtain⟨m,rfl⟩:=f1 x l rfl;obtain⟨n,rfl⟩:=f2 y t rfl;cases e;obtain⟨_,_,r1⟩:=a1;obtain⟨_,_,r2⟩:=c1;cases r1;cases r2;exact oneLt_int q
   |false=>exact kat_one _ _ ((V81 39 (A:=A) (s:=s)).1 x y v u r d1 a1 c1 e ∅ P w _ _ q)
theorem Y40(h:r81 x=0):∃ i,x=.int i:=by
 cases x with
 |int i=>exact⟨i,rfl⟩
 |tup l =>
  cases l with
  |nil=>cases h
  |cons y r=>cases y <;> cases h
 |_=>cases h
theorem Y50(h:r81 x=k)(h1:1<=k)(h3:k < 3):∃ y r,x=.tup (y::r)/\(k=1->∃ i,y=.int i)/\(k=2->∃ l,y=.tup l):=by
 cases x with
 |tup l =>
  cases l with
  |nil=>have:k=3:=h.symm;omega
  |cons y r =>
   refine⟨y,r,rfl,λe=>?_,λe=>?_⟩ <;> subst e <;> cases y <;> first | exact⟨_,rfl⟩ | cases h
 |int i=>have:k=0:=h.symm;omega|_=>have:k=3:=h.symm;omega
theorem W21(h1:1<=k)(h3:k < 3):∀ {us:List Ä}{l:List D},e50 h us l->(∀ x∈l,r81 x=k)->∃ fs,KatTups h us fs/\fs.length=us.length/\∀ v∈fs,(k=1->∃ i t,v=Ä.int i t)/\(k=2->∃ a o,v=Å3 a/\h.get? a=some o/\o.cls=.type "tuple")
 |_,[],hd,_=>by rw[hd.f30];exact⟨[],.nil,rfl,λv hv=>absurd hv (by simp)⟩
 |_,x::r,hd,hk=>by
  obtain⟨u,q,rfl,⟨_,as,r1⟩,h2⟩:=hd.c00;obtain⟨fs,t1,t2,t3⟩:=W21 h1 h3 h2 λy hy=>hk y (Å _ hy);obtain⟨y,l,rfl,y1,y2⟩:=Y50 (hk x É) h1 h3;cases r1 with
  | @tuple a o vs n xs as k1 k2 k3 k4 =>
   cases hv:vs.toList with
   |nil=>rw[hv] at k4;cases k4
   |cons f fr =>
    rw[hv] at k4;cases k4 with
    |cons f1 f2 =>
     refine⟨f::fs,.cons k1 k2 k3 (by rw[← þ,hv];rfl) t1,by simp[t2],λv hm=>?_⟩
     rcases ß.mp hm with rfl | hm
     ·refine⟨λe=>?_,λe=>?_⟩
      ·obtain⟨i,rfl⟩:=y1 e;cases f1;exact⟨_,_,rfl⟩
      ·obtain⟨m,rfl⟩:=y2 e;cases f1 with
       |tuple g1 g2 g3 g4=>exact⟨_,_,rfl,g1,g2⟩
     ·exact t3 v hm
def kdOf:Nat->Ì8
 |0=>Ô9|1=>tuples' true|_=>tuples' false
theorem Y60(h:l90 x y=true):r81 y=r81 x/\ltD x y=some (MySort.k00 (flt x) (flt y))/\(flt x=flt y->x=y):=by
 unfold l90 at h;rw[À,À,Å1] at h;refine⟨eq_of_beq h.1,eq_of_beq h.2.1,λe=>?_⟩;rcases h.2.2 with k | k
 ·exact N91 _ _ k
 ·rw[e] at k;simp at k
theorem O11(h64:us.length < 64)(hd:e50 s.heap us l)(hu:A.units + 40 < Ä9)(k3:k < 3)(hk:∀ x∈l,r81 x=k)(ho:∀ x∈l,okD x=true)(hp:∀ x∈l,∀ y∈l,l90 x y=true):MySort.g52 P w A s us (MySort.sortedBy (l.map flt)) (kdOf k) where
 len:=by omega
 few h2:=MySort.g62 (by rw[Ç];exact hd.len) h2
 all p hp:=by rw[hp.1.length_eq,ì,Ç,hd.len]
 kind h2 E Q q:=by
  match k,k3,hk,q with
  |0,_,hk,q =>
   refine kas_kind h2 (T:=.type "int") (λv hv=>?_) rfl rfl q;obtain⟨i,hi,rfl⟩:=Ò1.mp hv;have hi':i < l.length:=by rw[← hd.len];exact hi
   obtain⟨_,as,r⟩:=hd.get (i:=i) (d:=l[i]) (by simp[hi'])
   obtain⟨n,hn⟩:=Y40 (hk l[i] (Å8 hi'));rw[hn] at r;have e:us.getD i å=us[i]:=by simp[hi]
   rw[e] at r;generalize us[i]=v at r;cases r;exact Ø2 rfl
  |1,_,hk,q =>
   obtain⟨fs,t1,t2,t3⟩:=W21 (-0) (-0) hd hk
   exact kat_kind (T:=.type "int") t1 ∅ (λv hv=>by obtain⟨i,t,rfl⟩:=(t3 v hv).1 rfl;exact Ø2 rfl) rfl q
  |2,_,hk,q =>
   obtain⟨fs,t1,t2,t3⟩:=W21 (-0) (-0) hd hk
   exact kat_kind (T:=.type "tuple") t1 ∅ (λv hv=>by
    obtain⟨a,o,rfl,g1,g2⟩:=(t3 v hv).2 rfl;rw[← g2];exact(Ñ7 g1).andThen .now) rfl q
 run:=MySort.S61 (by rw[Ç];exact hd.len) h64 λi j hi hj E C hC=>by
  have hi':i < l.length:=by rw[← hd.len];exact hi
  have hj':j < l.length:=by rw[← hd.len];exact hj
  have mi:=Å8 hi';have mj:=Å8 hj';obtain⟨_,h2,_⟩:=Y60 (hp _ mi _ mj);have a1:=hd.get (i:=i) (d:=l[i]) (by simp[hi'])
  have b1:=hd.get (i:=j) (d:=l[j]) (by simp[hj'])
  have e1:(l.map flt).getD i []=flt l[i]:=by simp[hi']
  have e2:(l.map flt).getD j []=flt l[j]:=by simp[hj']
  rw[e1,e2] at hC;generalize MySort.k00 (flt l[i]) (flt l[j])=c at h2 hC;have kx:=hk _ mi;have ky:=hk _ mj;have ox:=L70 (ho _ mi);generalize l[i]=x at *
  generalize l[j]=y at *
  have tup:∀ b:Bool,1<=k->(b=true->k=1)->Ñ (Ü P w) A (keyLt' (tuples' b) (us.getD i å) (us.getD j å)) C E s:=λb h1 hb=>by
   obtain⟨x1,xr,rfl,x2,_⟩:=Y50 kx h1 k3;obtain⟨y1,yr,rfl,y2,_⟩:=Y50 ky h1 k3;obtain⟨f1,as,r1⟩:=a1;obtain⟨f2,bs,r2⟩:=b1;generalize us.getD i å=v at r1;generalize us.getD j å=u at r2;cases r1 with
   |tuple p1 p2 p3 p4 =>
    cases r2 with
    |tuple q1 q2 q3 q4 =>
     refine kat_lt p1 p3 q1 q3 (G82 hu (x1::xr) (y1::yr) 0 ⟨f1,_,p4⟩ ⟨f2,_,q4⟩ h2 (by have:deep (.tup (x1::xr))=l80 (x1::xr) + 1:=rfl;omega) (λz=>?_) (by simp) hC)
     have hb1:=hb (by simpa using z)
     exact⟨λa q e=>by cases e;exact x2 hb1,λa q e=>by cases e;exact y2 hb1⟩
  match k,k3,kx,ky,tup with
  |0,_,kx,ky,_ =>
   obtain⟨m,rfl⟩:=Y40 kx;obtain⟨n,rfl⟩:=Y40 ky;cases h2;obtain⟨_,_,r1⟩:=a1;obtain⟨_,_,r2⟩:=b1;generalize us.getD i å=v at r1;generalize us.getD j å=u at r2;cases r1;cases r2;exact kat_lt_int hC
  |1,_,_,_,tup=>exact tup true (-0) λ_=>rfl|2,_,_,_,tup=>exact tup false (-0) λh=>by cases h
theorem HdA.pick{K:Â}{H:Hp}{l:List D}{vs:List V}(h:HdA K H l vs):∀ {p:List Nat},(∀ i∈p,i < l.length)->HdA K H (p.map λi=>l.getD i .non) (p.map λi=>vs.getD i .non)
 |[],_=>.nil
 |i::p,hp=>by
  have hi:=hp i É;refine .cons ?_ (HdA.pick h λj hj=>hp j (Å _ hj));obtain⟨v,e1,e2⟩:=h.get (i:=i) (d:=l[i]) (by simp[hi])
  have g1:l.getD i .non=l[i]:=by simp[hi]
  have g2:vs.getD i .non=v:=by rw[Í,e1];rfl
  show Hd K H (l.getD i .non) (vs.getD i .non);rw[g1,g2];exact e2
end Q
namespace Q
open PySem L2 PySem.Spec PyProof.Rows
open PySem.W (kas_mapM kas_first_eq kas_item kas_item_eq kas_cmp)
theorem W31(h:k<=8):∀ i∈TS.sN k,i < 2 ^ k:=by
 have:∀ k,k < 9->((TS.sN k).all λi=>Nat.blt i (2 ^ k))=true:=by decide +kernel
 intro i hi;exact Nat.blt_eq.mp (ö.mp (this k ∅) i hi)
theorem j72(h:k<=8):(TS.sN k).length=2 ^ k:=by
 have:∀ k,k < 9->beq (TS.sN k).length (2 ^ k)=true:=by decide +kernel
 exact Nat.eq_of_beq_eq_true (this k ∅)
theorem w00(h:i < 2 ^ k):(i00 k)[i]?=some (g80 k i):=by
 unfold i00;rw[Ö,Ì0 h];rfl
theorem j82(h:k<=8):((TS.sN k).map λi=>(i00 k).getD i .non)=G71 k :=
 Ä0 λi hi=>by rw[Í,w00 (W31 h i hi)];rfl
theorem s81:∀ a b:List Nat,G51 (a.map λ(i:Nat)=>.int i) (b.map λ(i:Nat)=>.int i)=some (TS.s02 a b)
 |[],[]=>rfl|[],_::_=>rfl|_::_,[]=>rfl
 |a::r,b::q=>by
  show(if ((a:Int) == (b:Int))=true then G51 (r.map λ(i:Nat)=>.int i) (q.map λ(i:Nat)=>.int i) else some (decide ((a:Int) < b)))=some (if beq a b=true then TS.s02 r q else Nat.blt a b);rw[s81 r q];by_cases h:a=b
  ·subst h;rw[if_pos (by simp),if_pos (Nat.beq_refl a)]
  ·rw[if_neg (by simp;omega),if_neg λe=>h (Nat.eq_of_beq_eq_true e)]
   congr 1
   rw[Ë9,decide_eq_true_eq,Nat.blt_eq];omega
variable [TB:Tb]
section
variable {P:ã}{w:ü}{A:À3}{E:Ä->Æ->Prop}{s:Æ}
def TupAt(h:õ)(v:Ä):Prop:=∃ a o xs n,v=.ref a/\h.get? a=some o/\o.cls=.type "tuple"/\o.data=.seq xs n
theorem d21(ho:s.heap.get? a=some o)(hc:o.cls=.type "tuple")(hd:o.data=.seq xs n)(q:Q xs[0]? s):Ñ (Ü P w) A (firstOfTuple' (.ref a)) Q E s:=by
 rw[kas_first_eq];refine Á (Ú0 (show PySem.W.Looks (Ü P w) s.heap (typeOf (.ref a)) o.cls from(Ñ7 ho).andThen .now) ?_);rw[hc,if_neg (by first | decide | simp)]
 exact Á (Î6 ho hd (Ê q))
theorem S90:∀ (vs:List Ä),(∀ v∈vs,TupAt s.heap v)->∃ fs:List (Option Ä),∀ Q,Q fs s->Ñ (Ü P w) A (vs.mapM firstOfTuple') Q E s
 |[],_=>⟨[],λQ q=>by rw[List.mapM_nil];exact Ê q⟩
 |v::vs,h=>by
  obtain⟨fs,hf⟩:=S90 vs λu hu=>h u (Å _ hu);obtain⟨a,o,xs,n,rfl,ho,hc,hd⟩:=h v É;refine⟨xs[0]?::fs,λQ q=>?_⟩;rw[mapM_cons];exact Á (d21 ho hc hd (Á (hf _ (Ê q))))
theorem W41(ho:s.heap.get? a=some o)(hc:o.cls=.type "tuple")(hd:o.data=.seq #[] n)(h:∀ v∈vs,TupAt s.heap v)(q:Q Ô9 s):Ñ (Ü P w) A (keyKind' (Å3 a::vs).toArray) Q E s:=by
 obtain⟨fs,hf⟩:=S90 (P:=P) (w:=w) (A:=A) (E:=E) vs h;rw[keyKind'_eq,List.mapM_toArray,map_eq_pure_bind,mapM_cons];refine Á (Á (Á (d21 ho hc hd (Á (hf _ (Ê (Ê ?_)))))));rw[if_neg (by simp),if_neg (by simp)]
 rw[oneTypeOnly'_eq,List.mapM_toArray,map_eq_pure_bind];refine Á (Á (Á (kas_mapM (r:=.type "tuple") _ (λv hv Q' hq=>?_) (Ê ?_))))
 ·have:TupAt s.heap v:=by
   rcases ß.mp hv with rfl | hv
   ·exact⟨_,_,_,_,rfl,ho,hc,hd⟩
   ·exact h v hv
  obtain⟨b,o',xs,m,rfl,ho',hc',_⟩:=this;rw[← hc'] at hq;exact Ú0 (show PySem.W.Looks (Ü P w) s.heap (typeOf (.ref b)) o'.cls from(Ñ7 ho').andThen .now) hq
 ·have hall:((List.map (λ_=>Â9 "tuple") (Å3 a::vs)).toArray.all λx=>x == Â9 "tuple")=true:=by
   simp only[List.all_toArray,all_map,Â6];intro _ _;rfl
  have h0:(List.map (λ_=>Â9 "tuple") (Å3 a::vs)).toArray[0]?=some (Â9 "tuple"):=by simp
  rw[h0];simp only[hall,if_true];exact Ê (Ê q)
theorem j92(hl:Í0 s.heap l i1)(hb:Í0 s.heap b i2)(hu:A.units < Ä9)(hx:Lx A.in1 s i1.toList i2.toList c)(q:Q c s):Ñ (Ü P w) A (keyLt' Ô9 (.ref l) (.ref b)) Q E s:=by
 obtain⟨⟨cls,dd,data,sl⟩,ho,hc,n,hd⟩:=id hl;obtain⟨⟨cls2,dd2,data2,sl2⟩,ho2,hc2,n2,hd2⟩:=id hb;simp only at hc hd hc2 hd2;subst hc hd hc2 hd2;rw[keyLt'_oneType,oneLt'_eq];simp only[if_true];refine Á (wpAny_cRoomFor hu (Á (wpAny_callSpecialIfBound?_slot ⟨_,ho,rfl⟩ Ð4 (Æ7 Ð4 ⟨_,ho,rfl⟩ Û8 (Û2 _ _) (E10 l b i1 i2 n n2 dd dd2 sl sl2 c) ⟨ho,ho2,hx,?_⟩))));exact Á8 q
theorem k02(h8:k<=8)(hd:e50 s.heap us (i00 k))(hu:A.units + 40 < Ä9):MySort.g52 P w A s us (λp=>p=TS.sN k) Ô9 where
 len:=by rw[hd.len,i00,Ç,ì];exact Ù (Ç8 (-0) h8) (-0)
 few h2:=by
  rw[hd.len,i00,Ç,ì] at h2 ⊢;cases k with
  |zero=>rfl|succ k=>have:=Nat.one_le_two_pow (n:=k);rw[Nat.pow_succ] at h2;omega
 all p hp:=by subst hp;rw[hd.len,i00,Ç,ì,j72 h8]
 kind h2 E Q q:=by
  have ht:∀ i v,us[i]?=some v->∃ xs n a o,v=.ref a/\s.heap.get? a=some o/\o.cls=.type "tuple"/\o.data=.seq xs n/\(i=0->xs=#[]):=λi v e=>by
   have hi:i < us.length:=(ä.mp e).1;have hi':i < 2 ^ k:=by rw[hd.len,i00,Ç,ì] at hi;exact hi
   obtain⟨_,as,r⟩:=hd.get (w00 hi');have e2:us.getD i å=v:=by rw[Í,e];rfl
   rw[e2] at r;have z0:∀ k,TS.D50 k 0 0=[]:=λk=>by
    have:∀ k i,TS.D50 k i 0=[]:=λk=>by
     induction k with
     |zero=>exact λ_=>rfl|succ k ih=>exact λi=>ih (i + 1)
    exact this k 0
   cases i with
   |zero =>
    have r:Reads s.heap v (toP (.tup ((TS.D50 k 0 0).map λ(i:Nat)=>.int i))) as:=r;rw[z0] at r;cases r with
    | @tuple a o vs n xs as k1 k2 k3 k4 =>
     have:vs.toList=[]:=by cases hv:vs.toList with | nil=>rfl | cons _ _=>rw[hv] at k4;cases k4
     exact⟨vs,n,a,o,rfl,k1,k2,k3,λ_=>Array.toList_eq_nil_iff.mp this⟩
   |succ i =>
    cases r with
    | @tuple a o vs n xs as k1 k2 k3 k4=>exact⟨vs,n,a,o,rfl,k1,k2,k3,λe=>by cases e⟩
  match us,ht with
  |[],_=>simp at h2
  |v::vs,ht =>
   obtain⟨xs,n,a,o,rfl,h1,h3,h4,h5⟩:=ht 0 v rfl;cases h5 rfl;refine W41 h1 h3 h4 (λu hu=>?_) q;obtain⟨i,hi,rfl⟩:=Ò1.mp hu;obtain⟨xs,n,a,o,e,h1,h3,h4,_⟩:=ht (i + 1) vs[i] (by simp[hi])
   exact⟨a,o,xs,n,e,h1,h3,h4⟩
 run h2:=by
  have hl:us.length=2 ^ k:=by rw[hd.len,i00,Ç,ì]
  have h1:1<=k:=by
   cases k with
   |zero=>rw[hl] at h2;exact absurd h2 (-0)|succ k=>omega
  refine TS.runL h1 h8 hl λi j C hi hj hC=>?_;have e1:=kas_item_eq us i;have e2:=kas_item_eq us j;show Ñ (Ü P w) A (keyLt' Ô9 (ð (pairsOf us) i).1 (ð (pairsOf us) j).1) C _ s;rw[e1,e2];obtain⟨f1,as,r1⟩:=hd.get (w00 hi);obtain⟨f2,bs,r2⟩:=hd.get (w00 hj);show Ñ (Ü P w) A (keyLt' Ô9 (us.getD i å) (us.getD j å)) C _ s;generalize us.getD i å=v at r1;generalize us.getD j å=u at r2;cases r1 with
  |tuple p1 p2 p3 p4 =>
   cases r2 with
   |tuple q1 q2 q3 q4 =>
    refine j92 ⟨_,p1,p2,_,p3⟩ ⟨_,q1,q2,_,q3⟩ ∅ ((V81 40).2 _ _ _ _ _ ?_ ⟨f1,_,p4⟩ ⟨f2,_,q4⟩ (s81 _ _) ∅) hC
    have:∀ l:List Nat,l80 (l.map λ(i:Nat)=>.int i)=0:=λl=>by
     induction l with
     |nil=>rfl|cons x r ih=>show Nat.max 0 _=0;rw[ih];rfl
    rw[this];decide
end
section
variable {X:Cx}
theorem W51{zA:Option È}{H:Hp}{k:Nat}{xs:List V}(hu:X.A.units + 64 < Ä9)(hd:HdA X.K H (i00 k) xs)(h8:k<=8):T61 X H xs (λp=>p=TS.sN k):=by
 intro pins σ s us I rv;have ci:∀ l:List Nat,h90 (l.map λ(i:Nat)=>.int i)=true/\W20 (l.map λ(i:Nat)=>.int i) (l.map λ(i:Nat)=>.int i)=true:=λl=>by
  induction l with
  |nil=>exact⟨rfl,rfl⟩|cons x r ih=>exact⟨ih.1,by show((x:Int) == (x:Int)&&_)=true;rw[ih.2];simp⟩
 have cl:∀ l:List Nat,h90 (l.map (g80 k))=true/\W20 (l.map (g80 k)) (l.map (g80 k))=true:=λl=>by
  induction l with
  |nil=>exact⟨rfl,rfl⟩
  |cons x r ih =>
   refine⟨?_,?_⟩
   ·show(h90 _&&_)=true;rw[(ci _).1,ih.1];rfl
   ·show(W20 _ _&&_)=true;rw[(ci _).2,ih.2];rfl
 obtain⟨as,ra⟩:=D90 I hd rv (cl _).1;exact⟨Ô9,λh' kp=>k02 h8 ⟨(cl _).1,_,o90 kp _ (cl _).2 ra⟩ (by show X.A.units + 1 + 1 + 40 < Ä9;omega)⟩
theorem W61{zA:Option È}{H:Hp}{l:List D}{xs:List V}(hu:X.A.units + 64 < Ä9)(hd:HdA X.K H l xs)(h64:l.length < 64)(ok:s20 l=true):T61 X H xs (MySort.sortedBy (l.map flt)):=by
 intro pins σ s us I rv
 replace h64:us.length < 64:=by rw[← rv.length,hd.length];exact h64
 have all:∀ x∈l,r81 x < 3/\okD x=true/\∀ y∈l,l90 x y=true:=λx hx=>by
  have:=ö.mp ok x hx;rw[À,À,decide_eq_true_eq,Â6] at this;exact⟨this.1,this.2.1,this.2.2⟩
 have hf:h90 l=true:=by
  clear hd
  induction l with
  |nil=>rfl
  |cons x r ih =>
   have h1:=(o80 (all x É).2.1).1;show(x80 x&&h90 r)=true;rw[h1];have ok':s20 r=true:=ö.mpr λy hy=>by
    obtain⟨a,b,c⟩:=all y (Å _ hy);rw[À,À,decide_eq_true_eq,Â6];exact⟨a,b,λz hz=>c z (Å _ hz)⟩
   exact ih ok' λy hy=>⟨(all y (Å _ hy)).1,(all y (Å _ hy)).2.1,λz hz=>(all y (Å _ hy)).2.2 z (Å _ hz)⟩
 obtain⟨as,ra⟩:=D90 I hd rv hf;have pure:W20 l l=true:=by
  clear hd ra hf ok;have:∀ q:List D,(∀ x∈q,eqT x x=true)->W20 q q=true:=λq=>by
   induction q with
   |nil=>intro _;rfl|cons x r ih=>intro h;show(eqT x x&&W20 r r)=true;rw[h x É,ih λy hy=>h y (Å _ hy)];rfl
  refine this l λx hx=>?_;have h:=(all x hx).2.2 x hx;unfold l90 at h;rw[À,À,Å1] at h;rcases h.2.2 with k | k
  ·exact k
  ·simp at k
 cases l with
 |nil=>exact⟨kdOf 0,λh' kp=>O11 h64 ⟨hf,_,o90 kp _ pure ra⟩ (by show X.A.units + 1 + 1 + 40 < Ä9;omega) (-0) (λx hx=>absurd hx (by simp)) (λx hx=>absurd hx (by simp)) λx hx=>absurd hx (by simp)⟩
 |cons x r =>
  have hx:=all x É;exact⟨kdOf (r81 x),λh' kp=>O11 h64 ⟨hf,_,o90 kp _ pure ra⟩ (by show X.A.units + 1 + 1 + 40 < Ä9;omega) hx.1 (λy hy=>(Y60 (hx.2.2 y hy)).1) (λy hy=>(all y hy).2.1) λy hy=>(all y hy).2.2⟩
theorem s91(hu:X.A.units + 64 < Ä9):g60 X (.builtin "sorted") (rDn X.K (bfD .sorted)):=by
 intro pins s σ H xs us Q I r h;obtain⟨zA,z,ds,w,st,hx,e,q⟩:=h
 match ds,e with
 |[x],e =>
  have e:sortedS x=some w:=e;unfold sortedS at e;obtain⟨l,h1,e⟩:=Î.mp e;obtain⟨v,rfl,hv⟩:=hx.one;have go:∀ (a:È) (ys:List V),v=.ref a->(SqL X.K H a ys∨SqT X.K H a ys)->HdA X.K (hz zA H) l ys->Ñ (Ü X.prog X.w) X.A (call (.builtin "sorted") us) (EP X pins σ Q) X.xe s:=λa ys hva hq hd=>by
   subst hva;by_cases c:l.length < 64/\s20 l=true
   ·rw[if_pos c] at e;cases e;obtain⟨h64,ok⟩:=c;refine z40 pins s σ H _ us Q I r ⟨a,ys,MySort.sortedBy (l.map flt),rfl,hq,W61 (zA:=zA) hu (hd.same (a20 zA H)) h64 ok,λp hp i hi=>by have:=hp.1.mem_iff.mp hi;rw[hd.length];simpa using this,λp lA hp hn=>?_⟩
    have hd2:=hd.pick (p:=p) λi hi=>by have:=hp.1.mem_iff.mp hi;simpa using this
    rw[W11 (λx hx y hy=>?_) hp] at hd2
    ·exact q _ _ (a40.new _ hn) (s30 st hd2 hn)
    ·have:=ö.mp ok x hx;rw[À,À,Â6] at this;exact(Y60 (this.2.2 y hy)).2.2
   ·rw[if_neg c] at e;obtain⟨l',e1,rfl⟩:=Ë.mp e;obtain⟨k,e2,rfl⟩:=Ë.mp e1;have e3:=Y30 _ _ (List.find?_some (p:=λk=>W20 l (i00 k)) e2);have k8:k<=8:=by have:=List.mem_of_find?_eq_some e2;simp at this;omega
    subst e3;refine z40 pins s σ H _ us Q I r ⟨a,ys,λp=>p=TS.sN k,rfl,hq,W51 (zA:=zA) hu (hd.same (a20 zA H)) k8,λp hp i hi=>?_,λp lA hp hn=>?_⟩
    ·subst hp;rw[hd.length,i00,Ç,ì];exact W31 k8 i hi
    ·subst hp;have hd2:=hd.pick (p:=TS.sN k) λi hi=>by rw[i00,Ç,ì];exact W31 k8 i hi
     rw[j82 k8] at hd2;exact q _ _ (a40.new _ hn) (s30 st hd2 hn)
  cases x with
  |tup m =>
   cases h1;obtain⟨a,ys,rfl,k1,k2⟩:=hv.B40;exact go a ys rfl (.inr ((a20 zA H).sqT k1)) k2
  |lst m =>
   cases h1;obtain⟨a,ys,rfl,k1,k2⟩:=hv.c61;exact go a ys rfl (.inl (k1.same (a20 zA H)).sq) k2
  |_=>cases h1
end
structure Gs where
 fns:List (Str × List Str)
 nums:List (Str × Int)
 F:FT
 cls:Nat->Addr
 lv:Nat
def EPost(G:Gs)(zA:Option È)(E:XK)(c:Nat)(z:Z)(H:Hp):Prop:=∀ e H',Ext zA H H'->e20 zA z H'->H' e=none->E (.ref (G.cls c)) (some e) H'
theorem EPost.mono(h:EPost G zA E c z H)(e:Ext zA H H1):EPost G zA E c z H1:=λa H' x s n=>h a H' (e.trans x) s n
def y02(K:Â)(G:Gs)(zA:Option È)(E:XK)(H:Hp)(Q:VK):R S->Prop
 |.ok s z'=>∀ v H',Ext zA H H'->e20 zA z' H'->RvS K zA H H' s v->Q v H'|.er c z'=>EPost G zA E c z' H
def Y70(K:Â)(G:Gs)(zA:Option È)(E:XK)(H:Hp)(Q:VK):R (List S)->Prop
 |.ok l z'=>∃ s,l=[s]/\∀ v H',Ext zA H H'->e20 zA z' H'->RvS K zA H H' s v->Q v H'|.er c z'=>EPost G zA E c z' H
def y12(K:Â)(G:Gs)(zA:Option È)(E:XK)(H:Hp)(Q:List V->Hp->Prop):R (List S)->Prop
 |.ok l z'=>∀ vs H',Ext zA H H'->e20 zA z' H'->Ã4 (RvS K zA H H') l vs->Q vs H'|.er c z'=>EPost G zA E c z' H
def H61(G:Gs)(zA:Option È)(E:XK)(H:Hp)(Q:Bool->Hp->Prop):R (List S)->Prop
 |.ok l z'=>∃ b,l=[.d (.bl b)]/\∀ H',Ext zA H H'->e20 zA z' H'->Q b H'|.er c z'=>EPost G zA E c z' H
def B60(K:Â)(zA:Option È)(H:Hp)(ρ:Env)(σ:L2.St):Prop:=∀ (i:Nat) (s:S),ρ[i]?=some (some s)->∃ v,σ[i]?=some (some v)/\RvP K zA H s v
theorem B60.mono{K:Â}{zA:Option È}{H H':Hp}{ρ:Env}{σ:L2.St}(h:B60 K zA H ρ σ)(e:Ext zA H H'):B60 K zA H' ρ σ:=λi s q=>let ⟨v,a,b⟩:=h i s q;⟨v,a,b.mono e⟩
def tI(K:Â)(G:Gs)(E:XK)(x:Ex):TE:=λσ H Q=>∃ zA ρ z r,B60 K zA H ρ σ/\e20 zA z H/\ev G.F x ρ z=some r/\Y70 K G zA E H Q r
def tA(K:Â)(G:Gs)(E:XK)(x:Ex):TA:=λσ H Q=>∃ zA ρ z r,B60 K zA H ρ σ/\e20 zA z H/\ev G.F x ρ z=some r/\y12 K G zA E H Q r
def tT(K:Â)(G:Gs)(E:XK)(x:Ex):TT:=λσ H Q=>∃ zA ρ z r,B60 K zA H ρ σ/\e20 zA z H/\ev G.F x ρ z=some r/\H61 G zA E H Q r
def spF(K:Â)(G:Gs)(f n:Nat):Sp:=λvs H Q E=>vs.length=n/\∃ zA z ss r,RvA K zA H ss vs/\e20 zA z H/\G.F false f ss z=some r/\y02 K G zA E H Q r
section
variable {K:Â}{G:Gs}{E:XK}{a x:Ex}{ρ:Env}{z:Z}{zA:Option È}{σ:L2.St}{H:Hp}
theorem k40{α:Type}{k:List S->M α}{r:R α}{Q':VK}(rel:B60 K zA H ρ σ)(st:e20 zA z H)(h:M.bind (ev G.F a ρ) k z=some r)(her:∀ c z1,r=.er c z1->EPost G zA E c z1 H)
  (hok:∀ l z1,k l z1=some r->∃ s,l=[s]/\∀ v H1,Ext zA H H1->e20 zA z1 H1->RvS K zA H H1 s v->Q' v H1):tI K G E a σ H Q':=by
 rcases M.bind_some h with ⟨l,z1,e1,e2⟩ | ⟨c,z1,e1,e2⟩
 ·exact⟨zA,ρ,z,_,rel,st,e1,hok l z1 e2⟩
 ·exact⟨zA,ρ,z,_,rel,st,e1,her c z1 e2⟩
theorem k31{α:Type}{k:List S->M α}{r:R α}{Q':List V->Hp->Prop}(rel:B60 K zA H ρ σ)(st:e20 zA z H)(h:M.bind (ev G.F a ρ) k z=some r)(her:∀ c z1,r=.er c z1->EPost G zA E c z1 H)
  (hok:∀ l z1,k l z1=some r->∀ vs H1,Ext zA H H1->e20 zA z1 H1->Ã4 (RvS K zA H H1) l vs->Q' vs H1):tA K G E a σ H Q':=by
 rcases M.bind_some h with ⟨l,z1,e1,e2⟩ | ⟨c,z1,e1,e2⟩
 ·exact⟨zA,ρ,z,_,rel,st,e1,hok l z1 e2⟩
 ·exact⟨zA,ρ,z,_,rel,st,e1,her c z1 e2⟩
theorem T00{α:Type}{k:Bool->M α}{r:R α}{Q':Bool->Hp->Prop}(rel:B60 K zA H ρ σ)(st:e20 zA z H)(h:M.bind (ev G.F a ρ) (λx=>M.bind (M.of ((pl x).bind asB)) k) z=some r)(her:∀ c z1,r=.er c z1->EPost G zA E c z1 H)
  (hok:∀ b z1,k b z1=some r->∀ H1,Ext zA H H1->e20 zA z1 H1->Q' b H1):tT K G E a σ H Q':=by
 rcases M.bind_some h with ⟨l,z1,e1,e2⟩ | ⟨c,z1,e1,e2⟩
 ·obtain⟨b,e3,e4⟩:=M.a10 e2;obtain⟨d,e5,e6⟩:=Î.mp e3;have el:l=[.d (.bl b)]:=by
   obtain⟨s,rfl,hs⟩:=f40 e5;cases s with
   |d y=>cases hs;cases d <;> first | (cases e6;rfl) | cases e6
   |fr ys=>cases hs;cases e6
   |_=>cases hs
  exact⟨zA,ρ,z,_,rel,st,e1,b,el,hok b z1 e4⟩
 ·exact⟨zA,ρ,z,_,rel,st,e1,her c z1 e2⟩
theorem E30{l:List S}{s:S}(h:one l=some s):l=[s]:=by
 unfold one at h;split at h
 ·cases h;rfl
 ·cases h
end
theorem PE.imp(h:PE X e t)(i:∀ σ H Q,t' σ H Q->t σ H Q):PE X e t':=λpins s σ H Q I q=>h pins s σ H Q I (i _ _ _ q)
theorem PT.imp(h:PT X e t)(i:∀ σ H Q,t' σ H Q->t σ H Q):PT X e t':=λpins s σ H Q I q=>h pins s σ H Q I (i _ _ _ q)
theorem PW.imp(h:PW X e t)(i:∀ σ H Q,t' σ H Q->t σ H Q):PW X e t':=λw pins s σ H Q I q=>h w pins s σ H Q I (i _ _ _ q)
theorem PA.imp(h:PA X e t)(i:∀ σ H Q,t' σ H Q->t σ H Q):PA X e t':=λp pins s σ H Q I q=>h p pins s σ H Q I (i _ _ _ q)
def noStar:Ð->Bool
 |.Starred ..=>false|_=>true
theorem d50(h:noStar e=true)(es:List Ð)(env:Ç1):ý (e::es) env=(false,eval e env)::ý es env:=by
 cases e <;> first | rfl | cases h
theorem w10:∀ {es:List Ð} (env:Ç1) (pos:Pos),es.all noStar=true->(Ò7 pos (ý es env)).any (·.1)=false
 |[],_,_,_=>rfl
 |e::es,env,pos,h=>by
  rw[Ä1,À] at h;rw[d50 h.1];show(false || (Ò7 pos (ý es env)).any (·.1))=false;rw[w10 env pos h.2];rfl
def plainT:Ð->Bool
 |.UnaryOp .Not _ _=>false|.BoolOp ..=>false|.IfExp ..=>false|.Compare ..=>false|_=>true
theorem t01(h:plainT e=true)(env:Ç1)(whole:Sem Ä):isTrue e env whole=(do let v ← whole;standAt e.pos;holding [v] (truthy v)):=by
 cases e with
 |UnaryOp op _ _=>cases op <;> first | rfl | cases h
 |BoolOp _ _ _=>cases h
 |IfExp _ _ _ _=>cases h
 |Compare _ _ _ _=>cases h
 |_=>rfl
def E40:Ð->Bool
 |.Slice ..=>false|_=>true
theorem I00(h:E40 e=true):o61 e:=λo i=>by
 cases e with
 |Slice _ _ _ _=>cases h
 |_=>rfl
def A90:Ð->Bool
 |.Set ..=>false|_=>true
theorem t11(h:A90 e=true)(op:CmpOp):behindInMarks op e=false:=by
 cases e with
 |Set _ _ _=>cases h
 |_=>rfl
structure a90(X:Cx)(G:Gs)(E:XK)(x:Ex)(e:Expr):Prop where
 pe:PE X e (tI X.K G E x)
 pt:(∀ t a b p,e≠.IfExp t a b p)->PT X e (tT X.K G E x)
 pw:∀ op vs p,e=.BoolOp op vs p->PW X e (tT X.K G E x)
theorem b20(h:PE X e (tI X.K G E x))(hp:plainT e=true):a90 X G E x e:=by
 refine⟨h,λ_=>PT.imp (d32 h (t01 hp X.env)) λσ H Q q=>?_,λop vs p he=>?_⟩
 ·obtain⟨zA,ρ,z,r,rel,st,e,po⟩:=q;refine⟨zA,ρ,z,r,rel,st,e,?_⟩;cases r with
  |er c z1=>exact po
  |ok l z1 =>
   obtain⟨b,rfl,po⟩:=po;exact⟨_,rfl,λv H' ex st' rv=>⟨b,Hd.bl_ (show Hd X.K (hz zA H') (.bl b) v from rv),po H' ex st'⟩⟩
 ·subst he;cases hp
def isL:Ex->Bool
 |.nil=>true|.cons _ _=>true|_=>false
def Good(X:Cx)(G:Gs)(E:XK):Ex->List Ð->Prop
 |.nil,es=>es=[]|.cons a r,es=>∃ e es',es=e::es'/\noStar e=true/\a90 X G E a e/\isL r=true/\Good X G E r es'|x,es=>∃ e,es=[e]/\a90 X G E x e
theorem Good.args:∀ {x:Ex}{es:List Ð},isL x=true->Good X G E x es->PA X es (tA X.K G E x)/\es.all noStar=true:=by
 intro x
 induction x with
 |nil =>
  intro es _ h;have h:es=[]:=h;subst h;refine⟨PA.imp v00 λσ H Q q=>?_,rfl⟩;obtain⟨zA,ρ,z,r,rel,st,e,po⟩:=q;cases e;exact po [] H Ext.refl st .nil
 |cons a r _ ih =>
  intro es _ h;obtain⟨e,es',rfl,ns,g,lr,gr⟩:=h;obtain⟨h1,h2⟩:=ih lr gr;refine⟨PA.imp (g70 g.pe h1 (d50 ns es' X.env)) λσ H Q q=>?_,by rw[Ä1,ns,h2];rfl⟩
  obtain⟨zA,ρ,z,rr,rel,st,e,po⟩:=q;have her:∀ c z1,rr=.er c z1->EPost G zA E c z1 H:=λc z1 e=>by subst e;exact po
  refine k40 rel st e her λl z1 e1=>?_;obtain⟨s,hs,e2⟩:=M.a10 e1;refine⟨s,E30 hs,λv H1 x1 st1 rv=>?_⟩;refine k31 (rel.mono x1) st1 e2 (λc z2 q=>(her c z2 q).mono x1) λl2 z2 e3 vs H2 x2 st2 rvs=>?_;cases e3;exact po (v::vs) H2 (x1.trans x2) st2 (.cons (rv.mono x2) (Ã4.b92 rvs λ_ _ q=>q.from x1))
 |_=>intro es h;cases h
def W71:List Str:=["len","sorted","tuple","list","sum","min","max","abs","all","any","int","bool","str","isinstance","range","zip","enumerate","set"]
structure XI(lm:Bool)(X:Cx)(G:Gs)(E:XK)(N:List Str)(sc:Scope):Prop where
 gok:∀ f nm ps,G.fns[f]?=some (nm,ps)->∃ fa fd,X.mg nm=some (.ref fa)/\PySem.W.keepIn X.K (.ref fa)=true/\Binds X.K fd ps []/\i31 X.prog X.w X.K X.mg X.base (CX1 X.prog X.w) G.lv fa fd ps (spF X.K G f ps.length)
 num:∀ p∈G.nums,∃ t,X.mg p.1=some (.int p.2 t)
 blt:∀ n∈W71,X.mg n=none
 hN:X.N=N
 nd:N.Nodup
 vis:∀ x∈N,Vis X.env.scope x
 glb:∀ x,sc.names.lookup x=some .globalImplicit->Gl X x
 cel:∀ x,(sc.names.lookup x=some .cell∨sc.names.lookup x=some .free)->(X.env.kindOf x=some .cell∨X.env.kindOf x=some .free)
 calm:X.calm=true
 room:Q40 G.lv X.A
 pas:Passes (CX1 X.prog X.w) X E
def glob(sc:Á3)(x:Str):Bool:=sc.names.lookup x == some .globalImplicit&&!(x == ("__debug__":Str))&&!(x == ("__name__":Str))
def c10(x:Str):Bool:=!(x == ("__debug__":Str))&&!(x == ("__classdict__":Str))
def k12:Const->D->Bool
 |.int i,.int j=>i == j|.bool a,.bl b=>a == b|.str x,.str y=>x == y|.none,.non=>true|_,_=>false
def bfN:Bf->Str × Bool
 |.len=>("len",false) | .sorted=>("sorted",false) | .tuple=>("tuple",true) | .list=>("list",true) | .sum=>("sum",false) | .min=>("min",false) | .max=>("max",false)|.all=>("all",false) | .int=>("int",true) | .sset=>("sorted",false) | .r72=>("len",false)
def served:Bf->Bool
 |.len | .tuple | .list | .min | .max | .all | .int | .sorted | .sum=>true|_=>false
mutual
noncomputable def i10(N:List Str)(loc:Str->Bool):Pat->Ð->Bool
 |.v i=>λe=>match e with
  |.Name x _=>N[i]? == some x&&loc x|_=>false
 |.tup ps=>λe=>match e with
  |.Tuple es _ _=>d31 N loc ps es|_=>false
 |.nil=>λ_=>false|.cons _ _=>λ_=>false
noncomputable def d31(N:List Str)(loc:Str->Bool):Pat->List Ð->Bool
 |.nil=>λes=>es.isEmpty
 |.cons p r=>λes=>match es with
  |e::es=>noStar e&&i10 N loc p e&&d31 N loc r es|[]=>false
 |.v _=>λ_=>false|.tup _=>λ_=>false
end
def m00:Ð->Bool
 |.Tuple ..=>true|_=>false
def d60:Ð->List Str
 |.Name x _=>[x]|.Tuple es _ _=>names es|_=>[]
where names:List Ð->List Str
 |[]=>[]|.Name x _::r=>x::names r|.Tuple [.Name a _,.Name b _] _ _::r=>a::b::names r|_::r=>names r
def T10(csc sc:Á3)(N own:List Str)(capt:List (Str × Nat)):Bool :=
 csc.kind == .function&&csc.names.all (λy=>y.2 != .cell)&&csc.names.all (λy=>y.2 != .local || csc.names.lookup y.1 == some .local) &&
  csc.names.all (λy=>y.2 != .free || (sc.names.lookup y.1 == some .cell || sc.names.lookup y.1 == some .free))&&capt.all (λp=>N[p.2]? == some p.1&&csc.names.lookup p.1 == some .free) &&
  own.all (λx=>csc.names.lookup x == some .local)&&decide (own++capt.map (·.1)).Nodup
def e60(N:List Str):List Nat->List (Str × Nat)
 |[]=>[]
 |i::r=>match N[i]? with
  |some x=>(x,i)::e60 N r|none=>e60 N r
def opt{α:Type}(o:Option α)(f:α->Bool):Bool:=match o with
 |some a=>f a|none=>false
theorem a50{α:Type}{o:Option α}{f:α->Bool}(h:opt o f=true):∃ a,o=some a/\f a=true:=by
 cases o with
 |none=>cases h
 |some a=>exact⟨a,rfl,h⟩
def G92:(e:List Ð)->Option {q:Str × Pos // e=[.Name q.1 q.2]}
 |[.Name n p]=>some ⟨(n,p),rfl⟩|_=>none
def y22:(e:List Ð)->Option {q:Const × Nat × Pos // e=[.Constant q.1 q.2.1 q.2.2]}
 |[.Constant c k p]=>some ⟨(c,k,p),rfl⟩|_=>none
def y32:(e:List Ð)->Option {q:Pos // e=[.Dict [] [] q]}
 |[.Dict [] [] p]=>some ⟨p,rfl⟩|_=>none
def y42:(e:List Ð)->Option {q:List Ð × Nat × Pos // e=[.Tuple q.1 q.2.1 q.2.2]}
 |[.Tuple l k p]=>some ⟨(l,k,p),rfl⟩|_=>none
def y52:(e:List Ð)->Option {q:List Ð × Pos // e=[.List q.1 q.2]}
 |[.List l p]=>some ⟨(l,p),rfl⟩|_=>none
def y62:(e:List Ð)->Option {q:Ð × Ì9 × Ð × Pos // e=[.BinOp q.1 q.2.1 q.2.2.1 q.2.2.2]}
 |[.BinOp l o r p]=>some ⟨(l,o,r,p),rfl⟩|_=>none
def y72:(e:List Ð)->Option {q:Ð × CmpOp × Ð × Pos // e=[.Compare q.1 [q.2.1] [q.2.2.1] q.2.2.2]}
 |[.Compare l [o] [r] p]=>some ⟨(l,o,r,p),rfl⟩|_=>none
def y82:(e:List Ð)->Option {q:Ð × Pos // e=[.UnaryOp .USub q.1 q.2]}
 |[.UnaryOp .USub x p]=>some ⟨(x,p),rfl⟩|_=>none
def y92:(e:List Ð)->Option {q:Ð × Pos // e=[.UnaryOp .Not q.1 q.2]}
 |[.UnaryOp .Not x p]=>some ⟨(x,p),rfl⟩|_=>none
def z02:(e:List Ð)->Option {q:Ð × Ð × List Ð × Pos // e=[.BoolOp .And (q.1::q.2.1::q.2.2.1) q.2.2.2]}
 |[.BoolOp .And (l::r::v) p]=>some ⟨(l,r,v,p),rfl⟩|_=>none
def H02:(e:List Ð)->Option {q:Ð × Ð × List Ð × Pos // e=[.BoolOp .Or (q.1::q.2.1::q.2.2.1) q.2.2.2]}
 |[.BoolOp .Or (l::r::v) p]=>some ⟨(l,r,v,p),rfl⟩|_=>none
def z12:(e:List Ð)->Option {q:Ð × Ð × Ð × Pos // e=[.IfExp q.1 q.2.1 q.2.2.1 q.2.2.2]}
 |[.IfExp t x y p]=>some ⟨(t,x,y,p),rfl⟩|_=>none
def M92:(e:List Ð)->Option {q:Ð × CmpOp × CmpOp × Ð × Ð × Pos // e=[.Compare q.1 [q.2.1,q.2.2.1] [q.2.2.2.1,q.2.2.2.2.1] q.2.2.2.2.2]}
 |[.Compare l [o,o2] [r,s] p]=>some ⟨(l,o,o2,r,s,p),rfl⟩|_=>none
def H12:(e:List Ð)->Option {q:Str × Pos × Ð × List Ð × Pos // e=[.Call (.Name q.1 q.2.1) (q.2.2.1::q.2.2.2.1) [] q.2.2.2.2]}
 |[.Call (.Name n q1) (x::l) [] p]=>some ⟨(n,q1,x,l,p),rfl⟩|_=>none
def z22:(e:List Ð)->Option {q:Str × Pos × Ð × Ð × Pos // e=[.Call (.Name q.1 q.2.1) [q.2.2.1,q.2.2.2.1] [] q.2.2.2.2]}
 |[.Call (.Name n q1) [x,ty] [] p]=>some ⟨(n,q1,x,ty,p),rfl⟩|_=>none
def N02:(e:List Ð)->Option {q:Ð × Ð × Pos // e=[.Subscript q.1 q.2.1 q.2.2]}
 |[.Subscript v x p]=>some ⟨(v,x,p),rfl⟩|_=>none
def N12:(e:List Ð)->Option {q:Ð × Option Ð × Option Ð × Pos × Pos // e=[.Subscript q.1 (.Slice q.2.1 q.2.2.1 none q.2.2.2.1) q.2.2.2.2]}
 |[.Subscript v (.Slice l h none q1) p]=>some ⟨(v,l,h,q1,p),rfl⟩|_=>none
def k22:(e:List Ð)->Option {q:Ð × Ð × Ð × List Ð × Á3 × Pos // e=[.ListComp q.1 [⟨q.2.1,q.2.2.1,q.2.2.2.1,0⟩] q.2.2.2.2.1 q.2.2.2.2.2]}
 |[.ListComp elt [⟨tg,iter,ifs,0⟩] csc p]=>some ⟨(elt,tg,iter,ifs,csc,p),rfl⟩|_=>none
def c32:(e:Ð)->Option {q:Str × Pos × Ð × Pos // e=.Call (.Name q.1 q.2.1) [q.2.2.1] [] q.2.2.2}
 |.Call (.Name n q1) [a] [] p=>some ⟨(n,q1,a,p),rfl⟩|_=>none
def c42:(e:Ð)->Option {q:Str × Pos × Ð × Ð × Pos // e=.Call (.Name q.1 q.2.1) [q.2.2.1,q.2.2.2.1] [] q.2.2.2.2}
 |.Call (.Name n q1) [a,b] [] p=>some ⟨(n,q1,a,b,p),rfl⟩|_=>none
def shN:(e:Ð)->Option {q:Str × Pos // e=.Name q.1 q.2}
 |.Name n p=>some ⟨(n,p),rfl⟩|_=>none
def H22:(e:Ð)->Option {q:Str × Pos × Str × Pos × Nat × Pos // e=.Tuple [.Name q.1 q.2.1,.Name q.2.2.1 q.2.2.2.1] q.2.2.2.2.1 q.2.2.2.2.2}
 |.Tuple [.Name a q1,.Name b q2] k p=>some ⟨(a,q1,b,q2,k,p),rfl⟩|_=>none
def N22:(e:List Ð)->Option {q:Str × Pos × Int × Nat × Pos × Pos // e=[.Subscript (.Name q.1 q.2.1) (.Constant (.int q.2.2.1) q.2.2.2.1 q.2.2.2.2.1) q.2.2.2.2.2]}
 |[.Subscript (.Name n p) (.Constant (.int j) c q1) r]=>some ⟨(n,p,j,c,q1,r),rfl⟩|_=>none
def N32:(e:List Ð)->Option {q:Str × Pos × Str × Pos × List Ð × Pos × Pos // e=[.Call (.Name q.1 q.2.1) [.Call (.Name q.2.2.1 q.2.2.2.1) q.2.2.2.2.1 [] q.2.2.2.2.2.1] [] q.2.2.2.2.2.2]}
 |[.Call (.Name n p) [.Call (.Name m q1) l [] r] [] t]=>some ⟨(n,p,m,q1,l,r,t),rfl⟩|_=>none
def tyE(sc:Á3):Ty->Ð->Bool
 |.seq=>λe=>opt (H22 e) λq=>q.1.1 == ("tuple":Str)&&q.1.2.2.1 == ("list":Str)&&glob sc "tuple"&&glob sc "list"|t=>λe=>opt (shN e) λq=>q.1.1 == Á5 (tyN t)&&glob sc (Á5 (tyN t))
def k32:D->Bool
 |.dct=>true|_=>false
def ifB:Ð->Bool
 |.IfExp ..=>true|_=>false
def mt:Bool->List (Str × List Str)->List (Str × Int)->Ex->Á3->List Str->List Ð->Bool
 |lm,fns,nums,.nil=>λ_ _ es=>es.isEmpty
 |lm,fns,nums,.cons a r=>λsc N es=>match es with
  |e::es=>noStar e&&!isL a&&isL r&&mt lm fns nums a sc N [e]&&mt lm fns nums r sc N es|[]=>false
 |lm,fns,nums,.var i=>λ_ N es=>opt (G92 es) λq=>N[i]? == some q.1.1&&c10 q.1.1|lm,fns,nums,.con d=>λ_ _ es=>(opt (y22 es) λq=>k12 q.1.1 d) || opt (y32 es) λ_=>k32 d|lm,fns,nums,.gint g i=>λsc _ es=>opt (G92 es) λq=>q.1.1 == g&&glob sc q.1.1&&nums.contains (g,i)|lm,fns,nums,.tup as=>λsc N es=>opt (y42 es) λq=>isL as&&mt lm fns nums as sc N q.1.1|lm,fns,nums,.lst as=>λsc N es=>opt (y52 es) λq=>isL as&&mt lm fns nums as sc N q.1.1|lm,fns,nums,.bin o a b=>λsc N es=>opt (y62 es) λq=>q.1.2.1 == opB o&&!isL a&&!isL b&&mt lm fns nums a sc N [q.1.1]&&mt lm fns nums b sc N [q.1.2.2.1]|lm,fns,nums,.cmp o a b=>λsc N es=>opt (y72 es) λq=>q.1.2.1 == opC o&&A90 q.1.2.2.1&&!isL a&&!isL b&&mt lm fns nums a sc N [q.1.1]&&mt lm fns nums b sc N [q.1.2.2.1]|lm,fns,nums,.neg a=>λsc N es=>opt (y82 es) λq=>!isL a&&mt lm fns nums a sc N [q.1.1]|lm,fns,nums,.not a=>λsc N es=>opt (y92 es) λq=>!isL a&&!ifB q.1.1&&mt lm fns nums a sc N [q.1.1]|lm,fns,nums,.and a b=>λsc N es=>opt (z02 es) λq=>!isL a&&!isL b&&!ifB q.1.1&&mt lm fns nums a sc N [q.1.1]&&(if q.1.2.2.1.isEmpty then !ifB q.1.2.1&&mt lm fns nums b sc N [q.1.2.1] else mt lm fns nums b sc N [.BoolOp .And (q.1.2.1::q.1.2.2.1) q.1.2.2.2])|lm,fns,nums,.or a b=>λsc N es=>opt (H02 es) λq=>!isL a&&!isL b&&!ifB q.1.1&&mt lm fns nums a sc N [q.1.1]&&(if q.1.2.2.1.isEmpty then !ifB q.1.2.1&&mt lm fns nums b sc N [q.1.2.1] else mt lm fns nums b sc N [.BoolOp .Or (q.1.2.1::q.1.2.2.1) q.1.2.2.2])|lm,fns,nums,.orT a b=>λsc N es=>opt (H02 es) λq=>!isL a&&!isL b&&q.1.2.2.1.isEmpty&&mt lm fns nums a sc N [q.1.1]&&mt lm fns nums b sc N [q.1.2.1]|lm,fns,nums,.ite c a b=>λsc N es=>opt (z12 es) λq=>!isL c&&!isL a&&!isL b&&!ifB q.1.1&&mt lm fns nums c sc N [q.1.1]&&mt lm fns nums a sc N [q.1.2.1]&&mt lm fns nums b sc N [q.1.2.2.1]|lm,fns,nums,.ch o o' a b c=>λsc N es=>opt (M92 es) λq=>q.1.2.1 == opC o&&q.1.2.2.1 == opC o'&&A90 q.1.2.2.2.2.1&&!isL a&&!isL b&&!isL c&&mt lm fns nums a sc N [q.1.1]&&mt lm fns nums b sc N [q.1.2.2.2.1]&&mt lm fns nums c sc N [q.1.2.2.2.2.1]|lm,fns,nums,.bf f as=>λsc N es=>opt (H12 es) λq=>served f&&q.1.1 == (bfN f).1&&glob sc q.1.1&&isL as&&mt lm fns nums as sc N (q.1.2.2.1::q.1.2.2.2.1)|lm,fns,nums,.isi t a=>λsc N es=>opt (z22 es) λq=>q.1.1 == ("isinstance":Str)&&glob sc q.1.1&&noStar q.1.2.2.1&&!isL a&&mt lm fns nums a sc N [q.1.2.2.1]&&tyE sc t q.1.2.2.2.1|lm,fns,nums,.idx a i=>λsc N es=>opt (N02 es) λq=>E40 q.1.2.1&&!isL a&&!isL i&&mt lm fns nums a sc N [q.1.1]&&mt lm fns nums i sc N [q.1.2.1]|lm,fns,nums,.sl a lo hi=>λsc N es=>opt (N12 es) λq=>!isL a&&isL lo&&isL hi&&mt lm fns nums a sc N [q.1.1]&&mt lm fns nums lo sc N q.1.2.1.toList&&mt lm fns nums hi sc N q.1.2.2.1.toList|lm,fns,nums,.call f as=>λsc N es=>opt (H12 es) λq=>(opt fns[f]? λp=>p.1 == q.1.1&&p.2.length == q.1.2.2.2.1.length + 1)&&glob sc q.1.1&&isL as&&mt lm fns nums as sc N (q.1.2.2.1::q.1.2.2.2.1)
 |lm,fns,nums,.comp own capt p it src cond el=>λsc N es=>opt (k22 es) λq =>
   (d60 q.1.2.1).length == own&&(e60 N capt).length == capt.length&&T10 q.1.2.2.2.2.1 sc N (d60 q.1.2.1) (e60 N capt)&&i10 (d60 q.1.2.1++(e60 N capt).map (·.1)) (λx=>(d60 q.1.2.1).contains x) p q.1.2.1&&isL src&&!isL el&&isL cond&&q.1.2.2.2.1.length<=1&&noStar q.1.1&&A90 q.1.2.2.1 &&
    q.1.2.2.2.1.all (λc=>!ifB c) &&
    (match it with
    |.seq=>mt lm fns nums src sc N [q.1.2.2.1]|.rng1=>opt (c32 q.1.2.2.1) λr=>r.1.1 == ("range":Str)&&glob sc r.1.1&&mt lm fns nums src sc N [r.1.2.2.1]|.rng2=>opt (c42 q.1.2.2.1) λr=>r.1.1 == ("range":Str)&&glob sc r.1.1&&mt lm fns nums src sc N [r.1.2.2.1,r.1.2.2.2.1]|.zip=>opt (c42 q.1.2.2.1) λr=>r.1.1 == ("zip":Str)&&glob sc r.1.1&&m00 q.1.2.1&&mt lm fns nums src sc N [r.1.2.2.1,r.1.2.2.2.1]
    |.enum=>opt (c32 q.1.2.2.1) λr=>r.1.1 == ("enumerate":Str)&&glob sc r.1.1&&m00 q.1.2.1&&mt lm fns nums src sc N [r.1.2.2.1])&&mt false fns nums cond q.1.2.2.2.2.1 (d60 q.1.2.1++(e60 N capt).map (·.1)) q.1.2.2.2.1&&mt false fns nums el q.1.2.2.2.2.1 (d60 q.1.2.1++(e60 N capt).map (·.1)) [q.1.1]
 |lm,fns,nums,.lrng b as=>λsc N es=>opt (N32 es) λq=>q.1.1 == lrN b&&q.1.2.2.1 == ("range":Str)&&glob sc (lrN b)&&glob sc "range"&&isL as&&decide (1<=q.1.2.2.2.2.1.length/\q.1.2.2.2.2.1.length<=2)&&mt lm fns nums as sc N q.1.2.2.2.2.1|lm,fns,nums,.zget i k=>λ_ N es=>opt (N22 es) λq=>N[i]? == some q.1.1&&c10 q.1.1&&q.1.2.2.1 == (k:Int)
theorem d90{sc:Á3}{x:Str}(h:glob sc x=true):sc.names.lookup x=some .globalImplicit/\(x == ("__debug__":Str))=false/\x≠"__name__":=by
 unfold glob at h;simp only[À,ø,beq_iff_eq] at h;refine⟨h.1.1,h.1.2,λe=>?_⟩;subst e;simp at h
section
variable {lm:Bool}{X:Cx}{G:Gs}{E:XK}{N:List Str}{sc:Á3}
theorem k42{K:Â}{zA:Option È}{H0 H:Hp}{s:S}{v:V}(h:RvP K zA H s v):RvS K zA H0 H (plS s) v:=by cases s <;> exact h
theorem W81(h:(!ifB e)=true):∀ t a b p,e≠.IfExp t a b p:=by
 intro t a b p he;subst he;cases h
theorem a70(hL:isL x=false)(h:Good X G E x [e]):a90 X G E x e:=by
 cases x with
 |nil=>cases hL
 |cons _ _=>cases hL
 |_ =>
  obtain⟨e',h1,h2⟩:=(show ∃ e',[e]=[e']/\a90 X G E _ e' from h);cases h1;exact h2
theorem c20(hL:isL x=false)(h:a90 X G E x e):Good X G E x [e]:=by
 cases x with
 |nil=>cases hL
 |cons _ _=>cases hL
 |_=>exact⟨e,rfl,h⟩
theorem g20(po:Y70 X.K G zA E H Q r):∀ c z1,r=.er c z1->EPost G zA E c z1 H:=λc z1 e=>by subst e;exact po
theorem T20(po:H61 G zA E H Q r):∀ c z1,r=.er c z1->EPost G zA E c z1 H:=λc z1 e=>by subst e;exact po
theorem z32(x:XI lm X G E N sc){i:Nat}{n:Str}{pos:Pos}(h1:N[i]?=some n)(h2:c10 n=true):a90 X G E (.var i) (.Name n pos):=by
 unfold c10 at h2;simp only[À,ø] at h2;refine b20 (PE.imp (n80 (i:=i) (by rw[x.hN];exact h1) (x.vis n (é h1)) h2.1 h2.2) λσ H Q q=>?_) rfl
 obtain⟨zA,ρ,z,r,rel,st,e,po⟩:=q;have e':(match ρ[i]? with | some (some s)=>M.ret [plS s] | _=>M.no) z=some r:=e
 cases hs:ρ[i]? with
 |none=>rw[hs] at e';cases e'
 |some o =>
  cases o with
  |none=>rw[hs] at e';cases e'
  |some s =>
   rw[hs] at e';cases e';obtain⟨v,hv,rv⟩:=rel i s hs;obtain⟨s',e',po⟩:=po;cases e';exact⟨v,hv,po v H Ext.refl st (k42 rv)⟩
theorem z42(h:k12 c d=true):a90 X G E (.con d) (.Constant c j pos):=by
 refine b20 ?_ rfl;have fin:∀ {v:V},(∀ H,Hd X.K H d v)->∀ σ H Q,tI X.K G E (.con d) σ H Q->tC v σ H Q:=λ{v} hd σ H Q q=>by
  obtain⟨zA,ρ,z,r,rel,st,e,po⟩:=q;cases e;obtain⟨s',e',po⟩:=po;cases e';exact po v H Ext.refl st (C51 (hd _))
 cases c with
 |int i=>cases d <;> first | (simp only[k12,beq_iff_eq] at h;subst h;exact PE.imp n01 (fin λH=>Hd.int)) | (cases h)
 |bool b=>cases d <;> first | (simp only[k12,beq_iff_eq] at h;subst h;exact PE.imp t22 (fin λH=>Hd.bl)) | (cases h)
 |str y=>cases d <;> first | (simp only[k12,beq_iff_eq] at h;subst h;exact PE.imp L91 (fin λH=>Hd.str)) | (cases h)
 |none=>cases d <;> first | exact PE.imp d22 (fin λH=>Hd.non) | (cases h)
 |_=>cases h
theorem z52:a90 X G E (.con .dct) (.Dict [] [] pos):=by
 refine b20 (PE.imp q61 λσ H Q q=>?_) rfl;obtain⟨zA,ρ,z,r,rel,st,e,po⟩:=q;cases e;obtain⟨s',e',po⟩:=po;cases e';intro p hp;refine po _ _ (Ext.of (a40.new _ hp)) (st.same (a40.new _ hp)) (C51 ?_);unfold Hd;exact⟨p,[],rfl,d20 b50 (st.c81 hp)⟩
theorem k52(x:XI lm X G E N sc){g:Str}{i:Int}{pos:Pos}(h1:glob sc g=true)(h2:(g,i)∈G.nums):a90 X G E (.gint g i) (.Name g pos):=by
 obtain⟨k1,k2,_⟩:=d90 h1;obtain⟨t,ht⟩:=x.num _ h2;refine b20 (PE.imp (Q51 (v:=.int i) (x.glb g k1) ht ⟨t,rfl⟩ k2) λσ H Q q=>?_) rfl;obtain⟨zA,ρ,z,r,rel,st,e,po⟩:=q;cases e;obtain⟨s',e',po⟩:=po;cases e';exact po _ H Ext.refl st j10
theorem L90{K:Â}{zA:Option È}{H0 H:Hp}{l:List S}{vs:List V}{ds:List D}(h:Ã4 (RvS K zA H0 H) l vs)(e:plA l=some ds):HdA K (hz zA H) ds vs:=RvA.ds (Ã4.b92 h λ_ _ q=>q.pl) e
theorem z62{as:Ex}{l:List Ð}{k:Nat}{pos:Pos}(hL:isL as=true)(g:Good X G E as l):a90 X G E (.tup as) (.Tuple l k pos):=by
 refine b20 (PE.imp (M21 (g.args hL).1) λσ H Q q=>?_) rfl;obtain⟨zA,ρ,z,r,rel,st,e,po⟩:=q;refine k31 rel st e (g20 po) λl z1 e1 vs H1 x1 st1 rvs=>?_;obtain⟨ds,hd,e2⟩:=M.a10 e1;split at e2
 ·rename_i hm;cases e2;obtain⟨s',e',po⟩:=po;cases e';have h:=L90 rvs hd;exact⟨g10 (by rw[h.length];exact hm),λp hp=>po _ _ (x1.trans (Ext.of (a40.new _ hp))) (st1.same (a40.new _ hp)) (C51 (Hd.tup ((st1.same (a40.new _ hp)).N41 (SqT.of b50)) (h.same (j00 (a40.new _ hp)))))⟩
 ·cases e2
theorem z72{as:Ex}{l:List Ð}{pos:Pos}(hL:isL as=true)(g:Good X G E as l):a90 X G E (.lst as) (.List l pos):=by
 refine b20 (PE.imp (M31 (g.args hL).1) λσ H Q q=>?_) rfl;obtain⟨zA,ρ,z,r,rel,st,e,po⟩:=q;refine k31 rel st e (g20 po) λl z1 e1 vs H1 x1 st1 rvs=>?_;obtain⟨ds,hd,e2⟩:=M.a10 e1;split at e2
 ·rename_i hm;cases e2;obtain⟨s',e',po⟩:=po;cases e';have h:=L90 rvs hd;exact⟨g10 (by rw[h.length];exact hm),λp hp=>po _ _ (x1.trans (Ext.of (a40.new _ hp))) (st1.same (a40.new _ hp)) ((s30 st1 h hp).from x1)⟩
 ·cases e2
theorem d41{α:Type}{a b:Ex}{k:D->D->M α}{zA:Option È}{ρ:Env}{z:Z}{r:R α}{σ:L2.St}{H:Hp}{Q:V->V->Hp->Prop}(rel:B60 X.K zA H ρ σ)(st:e20 zA z H)
  (h:M.bind (ev G.F a ρ) (λx=>M.bind (M.of (pl x)) λx=>M.bind (ev G.F b ρ) λy=>M.bind (M.of (pl y)) λy=>k x y) z=some r) (her:∀ c z1,r=.er c z1->EPost G zA E c z1 H)
  (hk:∀ dx dy z2 v w H2,k dx dy z2=some r->Ext zA H H2->e20 zA z2 H2->Hd X.K (hz zA H2) dx v->Hd X.K (hz zA H2) dy w->Q v w H2) :
  tI X.K G E a σ H λv H1=>tI X.K G E b σ H1 λw H2=>Q v w H2:=by
 refine k40 rel st h her λl z1 e1=>?_;obtain⟨dx,p1,e2⟩:=M.a10 e1;obtain⟨s1,rfl,q1⟩:=f40 p1;refine⟨s1,rfl,λv H1 x1 st1 rv=>?_⟩;refine k40 (rel.mono x1) st1 e2 (λc z2 q=>(her c z2 q).mono x1) λm z2 e3=>?_;obtain⟨dy,p2,e4⟩:=M.a10 e3;obtain⟨s2,rfl,q2⟩:=f40 p2;exact⟨s2,rfl,λw H2 x2 st2 rw'=>hk dx dy z2 v w H2 e4 (x1.trans x2) st2 ((rv.pl.mono x2).d_ q1) (rw'.pl.d_ q2)⟩
theorem f50{zA:Option È}{H H2:Hp}{z2:Z}{s:S}{Q:VK}(po:Y70 X.K G zA E H Q (.ok [s] z2))(x:Ext zA H H2)(st:e20 zA z2 H2):∀ v H',a40 H2 H'->RvS X.K zA H2 H' s v->Q v H':=λv H' sm rv=>by
 obtain⟨s',e',po⟩:=po;cases e';exact po v H' (x.trans (Ext.of sm)) (st.same sm) (rv.from x)
theorem z82(ga:a90 X G E a l)(gb:a90 X G E b r):a90 X G E (.bin o a b) (.BinOp l (opB o) r pos):=by
 refine b20 (PE.imp (u72 (opD o) ga.pe gb.pe) λσ H Q q=>?_) rfl;obtain⟨zA,ρ,z,rr,rel,st,e,po⟩:=q;refine d41 rel st e (g20 po) λdx dy z2 v w H2 e2 x2 st2 h1 h2=>?_;obtain⟨s,hs,e3⟩:=M.a10 e2;cases e3;exact⟨zA,z2,dx,dy,s,st2,h1,h2,hs,f50 po x2 st2⟩
theorem O21(po:H61 G zA E H Q r):Y70 X.K G zA E H (λx H'=>∃ k,x=.bl k/\Q k H') r:=by
 cases r with
 |er c z1=>exact po
 |ok l z1 =>
  obtain⟨b,rfl,po⟩:=po;exact⟨_,rfl,λv H' ex st' rv=>⟨b,Hd.bl_ (show Hd X.K (hz zA H') (.bl b) v from rv),po H' ex st'⟩⟩
theorem z92(x:XI lm X G E N sc)(hs:A90 r=true)(ga:a90 X G E a l)(gb:a90 X G E b r):a90 X G E (.cmp o a b) (.Compare l [opC o] [r] pos):=by
 have key:∀ σ H Q,tI X.K G E (.cmp o a b) σ H Q->tOp (rD2 X.K λa b=>(H80 o a b).map λc=>.d (.bl c)) (tI X.K G E a) (tI X.K G E b) σ H Q:=λσ H Q q=>by
  obtain⟨zA,ρ,z,rr,rel,st,e,po⟩:=q;refine d41 rel st e (g20 po) λdx dy z2 v w H2 e2 x2 st2 h1 h2=>?_;obtain⟨c,hc,e3⟩:=M.a10 e2;cases e3;exact⟨zA,z2,dx,dy,_,st2,h1,h2,by show Ì5 _ (H80 o dx dy)=_;rw[hc];rfl,f50 po x2 st2⟩
 refine⟨PE.imp (R11 (c22 x.room.units o) ga.pe gb.pe (t11 hs _)) key,λ_=>PT.imp (R21 (c22 x.room.units o) ga.pe gb.pe (t11 hs _)) λσ H Q q=>?_,λop vs p h=>by cases h⟩
 obtain⟨zA,ρ,z,rr,rel,st,e,po⟩:=q;exact key σ H _ ⟨zA,ρ,z,rr,rel,st,e,O21 po⟩
theorem A02(ga:a90 X G E a l):a90 X G E (.neg a) (.UnaryOp .USub l pos):=by
 refine b20 (PE.imp (u82 f32 ga.pe) λσ H Q q=>?_) rfl;obtain⟨zA,ρ,z,rr,rel,st,e,po⟩:=q;refine k40 rel st e (g20 po) λm z1 e1=>?_;obtain⟨i,p1,e2⟩:=M.a10 e1;obtain⟨d,p2,p3⟩:=Î.mp p1;obtain⟨s1,rfl,q1⟩:=f40 p2;cases e2;refine⟨s1,rfl,λv H1 x1 st1 rv=>?_⟩;have hd:=rv.pl.d_ q1;cases d with
 |int j =>
  cases p3;exact⟨i,hd.h60,f50 po x1 st1 _ _ (a40.refl H1) j10⟩
 |_=>cases p3
theorem A12(ga:a90 X G E a l)(hn:∀ t x y p,l≠.IfExp t x y p):a90 X G E (.not a) (.UnaryOp .Not l pos):=by
 refine⟨PE.imp (d92 ga.pe) λσ H Q q=>?_,λ_=>PT.imp (d62 (ga.pt hn)) λσ H Q q=>?_,λop vs p h=>by cases h⟩
 ·obtain⟨zA,ρ,z,rr,rel,st,e,po⟩:=q;refine k40 rel st e (g20 po) λm z1 e1=>?_;obtain⟨b,p1,e2⟩:=M.a10 e1;obtain⟨d,p2,p3⟩:=Î.mp p1;obtain⟨s1,rfl,q1⟩:=f40 p2;cases e2;refine⟨s1,rfl,λv H1 x1 st1 rv=>?_⟩;have hd:=rv.pl.d_ q1;cases d with
  |bl c =>
   cases p3;exact⟨b,hd.bl_,f50 po x1 st1 _ _ (a40.refl H1) k30⟩
  |_=>cases p3
 ·obtain⟨zA,ρ,z,rr,rel,st,e,po⟩:=q;refine T00 rel st e (T20 po) λb z1 e1 H1 x1 st1=>?_;cases e1;obtain⟨b',e',po⟩:=po;cases e';exact po H1 x1 st1
end
end Q
namespace Q
open PySem L2 PySem.Spec PyProof.Rows
variable [TB:Tb]
section
variable {lm:Bool}{X:Cx}{G:Gs}{E:XK}{N:List Str}{sc:Á3}
theorem M00(rel:B60 X.K zA H ρ σ)(st:e20 zA z H)
  (h:M.bind (ev G.F a ρ) (λx=>M.bind (M.of ((pl x).bind asB)) k) z=some r) (her:∀ c z1,r=.er c z1->EPost G zA E c z1 H)
  (hok:∀ b z1,k b z1=some r->∀ H1,Ext zA H H1->e20 zA z1 H1->Q' (.bl b) H1):tI X.K G E a σ H Q':=by
 refine k40 rel st h her λm z1 e1=>?_;obtain⟨b,p1,e2⟩:=M.a10 e1;obtain⟨d,p2,p3⟩:=Î.mp p1;obtain⟨s1,rfl,q1⟩:=f40 p2;refine⟨s1,rfl,λv H1 x1 st1 rv=>?_⟩;have hd:=rv.pl.d_ q1;cases d with
 |bl c =>
  cases p3;rw[hd.bl_];exact hok b z1 e2 H1 x1 st1
 |_=>cases p3
theorem A22(ga:a90 X G E a l)(hl:∀ t x y p,l≠.IfExp t x y p)
  (gb:a90 X G E b (.BoolOp .And (r::vs) p)):a90 X G E (.and a b) (.BoolOp .And (l::r::vs) p):=by
 have pw:PW X (.BoolOp .And (l::r::vs) p) (tT X.K G E (.and a b)):=by
  refine PW.imp (d52 (ga.pt hl) (gb.pw _ _ _ rfl)) λσ H Q q=>?_;obtain⟨zA,ρ,z,rr,rel,st,e,po⟩:=q;refine T00 rel st e (T20 po) λc z1 e1 H1 x1 st1=>?_;cases c with
  |true =>
   rw[if_pos rfl];rw[if_pos rfl] at e1;refine T00 (rel.mono x1) st1 e1 (λc z2 q=>((T20 po) c z2 q).mono x1) λc z2 e2 H2 x2 st2=>?_;cases e2;obtain⟨b',e',po⟩:=po;cases e';exact po H2 (x1.trans x2) st2
  |false =>
   rw[if_neg Ó];rw[if_neg Ó] at e1;cases e1;obtain⟨b',e',po⟩:=po;cases e';exact po H1 x1 st1
 refine⟨PE.imp (d82 ga.pe gb.pe) λσ H Q q=>?_,λ_=>pw.pt,λop vs p h=>pw⟩;obtain⟨zA,ρ,z,rr,rel,st,e,po⟩:=q;refine M00 rel st e (g20 po) λc z1 e1 H1 x1 st1=>⟨c,rfl,?_⟩;cases c with
 |true =>
  rw[if_pos rfl];rw[if_pos rfl] at e1;refine M00 (rel.mono x1) st1 e1 (λc z2 q=>((g20 po) c z2 q).mono x1) λc z2 e2 H2 x2 st2=>?_;cases e2;exact f50 po (x1.trans x2) st2 _ _ (a40.refl H2) k30
 |false =>
  rw[if_neg Ó];rw[if_neg Ó] at e1;cases e1;exact f50 po x1 st1 _ _ (a40.refl H1) k30
theorem N42(ga:a90 X G E a l)(hl:∀ t x y p,l≠.IfExp t x y p)
  (gb:a90 X G E b (.BoolOp .Or (r::vs) p)):a90 X G E (.or a b) (.BoolOp .Or (l::r::vs) p):=by
 have pw:PW X (.BoolOp .Or (l::r::vs) p) (tT X.K G E (.or a b)):=by
  refine PW.imp (t32 (ga.pt hl) (gb.pw _ _ _ rfl)) λσ H Q q=>?_;obtain⟨zA,ρ,z,rr,rel,st,e,po⟩:=q;refine T00 rel st e (T20 po) λc z1 e1 H1 x1 st1=>?_;cases c with
  |false =>
   rw[if_neg Ó];rw[if_neg Ó] at e1;refine T00 (rel.mono x1) st1 e1 (λc z2 q=>((T20 po) c z2 q).mono x1) λc z2 e2 H2 x2 st2=>?_;cases e2;obtain⟨b',e',po⟩:=po;cases e';exact po H2 (x1.trans x2) st2
  |true =>
   rw[if_pos rfl];rw[if_pos rfl] at e1;cases e1;obtain⟨b',e',po⟩:=po;cases e';exact po H1 x1 st1
 refine⟨PE.imp (t62 ga.pe gb.pe) λσ H Q q=>?_,λ_=>pw.pt,λop vs p h=>pw⟩;obtain⟨zA,ρ,z,rr,rel,st,e,po⟩:=q;refine M00 rel st e (g20 po) λc z1 e1 H1 x1 st1=>⟨c,rfl,?_⟩;cases c with
 |false =>
  rw[if_neg Ó];rw[if_neg Ó] at e1;refine M00 (rel.mono x1) st1 e1 (λc z2 q=>((g20 po) c z2 q).mono x1) λc z2 e2 H2 x2 st2=>?_;cases e2;exact f50 po (x1.trans x2) st2 _ _ (a40.refl H2) k30
 |true =>
  rw[if_pos rfl];rw[if_pos rfl] at e1;cases e1;exact f50 po x1 st1 _ _ (a40.refl H1) k30
theorem k62(gb:a90 X G E b r)(hr:∀ t x y p,r≠.IfExp t x y p):a90 X G E b (.BoolOp op [r] p):=by
 have pw:PW X (.BoolOp op [r] p) (tT X.K G E b):=by
  cases op with
  |And=>exact Q61 (gb.pt hr)|Or=>exact d42 (gb.pt hr)
 exact⟨d72 gb.pe,λ_=>pw.pt,λ_ _ _ _=>pw⟩
theorem Y70.k72(po:Y70 X.K G zA E H Q rr)(x1:Ext zA H H1):Y70 X.K G zA E H1 Q rr:=by
 cases rr with
 |er c z1=>exact EPost.mono po x1
 |ok l z2 =>
  obtain⟨s,e',po⟩:=po;exact⟨s,e',λv H' x' st' rv=>po v H' (x1.trans x') st' (rv.from x1)⟩
theorem T30{α:Type}{m:M α}{z:Z}{r:R α}(h:M.calm m z=some r):m z=some r/\∃ a z1,r=.ok a z1:=by
 unfold M.calm at h;split at h
 ·rename_i a z1 e;cases h;exact⟨e,a,z1,rfl⟩
 ·cases h
theorem k82(ha:PE X a ta)(hb:PE X b tb):PE X (.BoolOp .Or [a,b] pos) (λσ H Q=>ta σ H λx H1=>∃ t xs,x=.ref t/\SqT X.K H1 t xs/\if xs.isEmpty=true then tb σ H1 Q else Q x H1):=by
 intro pins s σ H Q I h;refine BoolOp_or (thn (ha pins s σ H _ I h) λv s1 ⟨x,H1,I1,r1,q1⟩=>?_);obtain⟨t,xs,rfl,hq,q1⟩:=q1;obtain⟨its,hv,ht,hl⟩:=I1.tuple hq;have hlen:xs.length=its.length:=hv.length;cases r1;refine truthy_tuple ht (by rw[Ô,← hlen];have:=Á4;omega) ?_
 cases xs with
 |nil =>
  cases its with
  |nil=>exact BoolOp_one (hb pins _ σ H1 Q (I1.tok _) q1)|cons _ _=>cases hlen
 |cons y r =>
  cases its with
  |nil=>cases hlen
  |cons _ _=>exact⟨.ref t,H1,I1.tok _,rfl,q1⟩
theorem O31(h:(pl y).bind i02=some l):∃ s,y=[s]/\plD s=some (.tup l):=by
 obtain⟨d,p2,p3⟩:=Î.mp h;obtain⟨s1,rfl,q1⟩:=f40 p2;cases d with
 |tup l=>cases p3;exact⟨s1,rfl,q1⟩
 |_=>cases p3
theorem A32(ga:a90 X G E a l)(gb:a90 X G E b r):a90 X G E (.orT a b) (.BoolOp .Or [l,r] p):=by
 have no:∀ {zA:Option È}{ρ:Env}{z:Z}{rr:R (List S)}{H:Hp}{Q:Bool->Hp->Prop},ev G.F (.orT a b) ρ z=some rr->H61 G zA E H Q rr->False:=λe po=>by
  obtain⟨e,u,z1,rfl⟩:=T30 e;obtain⟨c,rfl,_⟩:=po;rcases M.bind_some e with ⟨m,z2,_,e2⟩ | ⟨c,z2,_,e2⟩
  ·obtain⟨ds,_,e3⟩:=M.a10 e2;split at e3
   ·rcases M.bind_some e3 with ⟨m,z2,_,e2⟩ | ⟨c,z2,_,e2⟩
    ·obtain⟨ds,_,e3⟩:=M.a10 e2;cases e3
    ·cases e2
   ·cases e3
  ·cases e2
 refine⟨PE.imp (k82 ga.pe gb.pe) λσ H Q q=>?_,λ_ pins s σ H Q I ⟨_,_,_,_,_,_,e,po⟩=>(no e po).elim,λ_ _ _ _ wh pins s σ H Q I ⟨_,_,_,_,_,_,e,po⟩=>(no e po).elim⟩;obtain⟨zA,ρ,z,rr,rel,st,e,po⟩:=q;obtain⟨e,u,z1,rfl⟩:=T30 e;refine k40 rel st e (g20 po) λm z1 e1=>?_;obtain⟨ds,p1,e2⟩:=M.a10 e1;obtain⟨s1,rfl,q1⟩:=O31 p1;refine⟨s1,rfl,λv H1 x1 st1 rv=>?_⟩;have hd:=rv.pl.d_ q1;obtain⟨t,xs,rfl,h1,h2⟩:=hd.B40;refine⟨t,xs,rfl,(a20 zA H1).sqT h1,?_⟩;cases ds with
 |nil =>
  cases h2.f30;have po:=po.k72 x1;refine k40 (rel.mono x1) st1 e2 (g20 po) λm z1 e1=>?_;obtain⟨ds,p1,e2⟩:=M.a10 e1;obtain⟨s1,rfl,q1⟩:=O31 p1;cases e2;exact⟨s1,rfl,λv H2 x2 st2 rv=>f50 po x2 st2 _ _ (a40.refl H2) (rv.pl.d_ q1)⟩
 |cons y r =>
  obtain⟨u,w,rfl,_⟩:=h2.c00;cases e2;exact f50 po x1 st1 _ _ (a40.refl H1) hd
theorem A42(gc:a90 X G E c t)(ht:∀ a b d p,t≠.IfExp a b d p)(ga:a90 X G E a x)(gb:a90 X G E b y):a90 X G E (.ite c a b) (.IfExp t x y p):=by
 refine⟨PE.imp (C91 (gc.pt ht) ga.pe gb.pe) λσ H Q q=>?_,λh=>absurd rfl (h t x y p),λop vs p h=>by cases h⟩
 obtain⟨zA,ρ,z,rr,rel,st,e,po⟩:=q;refine T00 rel st e (g20 po) λk z1 e1 H1 x1 st1=>?_;have po1:=po.k72 x1;cases k with
 |true =>
  rw[if_pos rfl];rw[if_pos rfl] at e1;exact⟨zA,ρ,z1,rr,rel.mono x1,st1,e1,po1⟩
 |false =>
  rw[if_neg Ó];rw[if_neg Ó] at e1;exact⟨zA,ρ,z1,rr,rel.mono x1,st1,e1,po1⟩
theorem N52(x:XI lm X G E N sc)(hs:A90 s=true)(ga:a90 X G E a l)(gb:a90 X G E b r)(gc:a90 X G E c s):a90 X G E (.ch o o' a b c) (.Compare l [opC o,opC o'] [r,s] pos):=by
 have hm:lastMarks [opC o,opC o'] [r,s]=false:=t11 hs _;have key:∀ σ H Q,tI X.K G E (.ch o o' a b c) σ H Q->n81 (rD2 X.K λa b=>(H80 o a b).map λc=>.d (.bl c)) (rD2 X.K λa b=>(H80 o' a b).map λc=>.d (.bl c)) (tI X.K G E a) (tI X.K G E b) (tI X.K G E c) σ H Q:=λσ H Q q=>by
  obtain⟨zA,ρ,z,rr,rel,st,e,po⟩:=q;refine d41 rel st e (g20 po) λdx dy z2 v w H2 e2 x2 st2 h1 h2=>?_;obtain⟨k,hk,e3⟩:=M.a10 e2;refine⟨zA,z2,dx,dy,.d (.bl k),st2,h1,h2,by show Ì5 _ (H80 o dx dy)=_;rw[hk];rfl,λv3 H3 sm rv=>⟨k,Hd.bl_ (show Hd X.K (hz zA H3) (.bl k) v3 from rv),?_⟩⟩
  have x3:=x2.trans (Ext.of sm);have st3:=st2.same sm;cases k with
  |true =>
   rw[if_pos rfl];rw[if_pos rfl] at e3;refine k40 (rel.mono x3) st3 e3 (λc z2 q=>((g20 po) c z2 q).mono x3) λm z4 e4=>?_;obtain⟨dw,p1,e5⟩:=M.a10 e4;obtain⟨k',hk',e6⟩:=M.a10 e5;obtain⟨s1,rfl,q1⟩:=f40 p1;cases e6;refine⟨s1,rfl,λv4 H4 x4 st4 rv4=>?_⟩;exact⟨zA,z4,dy,dw,_,st4,(h2.same (a40.trans (j00 sm) x4)),rv4.pl.d_ q1,by show Ì5 _ (H80 o' dy dw)=_;rw[hk'];rfl,f50 po (x3.trans x4) st4⟩
  |false =>
   rw[if_neg Ó];rw[if_neg Ó] at e3;cases e3;exact f50 po x3 st3 _ _ (a40.refl H3) k30
 refine⟨PE.imp (D31 (c22 x.room.units o) (c22 x.room.units o') ga.pe gb.pe gc.pe hm) key,λ_=>PT.imp (D41 (c22 x.room.units o) (c22 x.room.units o') ga.pe gb.pe gc.pe hm) λσ H Q q=>?_,λop vs p h=>by cases h⟩
 obtain⟨zA,ρ,z,rr,rel,st,e,po⟩:=q;exact key σ H _ ⟨zA,ρ,z,rr,rel,st,e,O21 po⟩
theorem O41:∀ σ H Q,tI X.K G E (.bf f as) σ H Q->tCB (rDn X.K (bfD f)) (tA X.K G E as) σ H Q:=λσ H Q q=>by
 obtain⟨zA,ρ,z,rr,rel,st,e,po⟩:=q;refine k31 rel st e (g20 po) λl z1 e1 vs H1 x1 st1 rvs=>?_;obtain⟨ds,hd,e2⟩:=M.a10 e1;obtain⟨s,hs,e3⟩:=M.a10 e2;cases e3;exact⟨zA,z1,ds,s,st1,L90 rvs hd,hs,f50 po x1 st1⟩
theorem k41(x:XI lm X G E N sc){f:Bf}{as:Ex}{n:Str}{id:String}{e:Ð}{l:List Ð}{p pos:Pos}(hc:g60 X (.builtin id) (rDn X.K (bfD f)))(hb:n∈W71)(hv:í n=some (.builtin id))(hg:glob sc n=true)(hL:isL as=true)(g:Good X G E as (e::l)):a90 X G E (.bf f as) (.Call (.Name n p) (e::l) [] pos):=by
 obtain⟨k1,k2,k3⟩:=d90 hg;obtain⟨ha,hs⟩:=g.args hL;rw[Ä1,À] at hs;exact b20 (PE.imp (J10 hc (x.glb n k1) (x.blt n hb) hv ha k3 k2 (d50 hs.1 l X.env) (w10 X.env pos hs.2)) O41) rfl
theorem W91(x:XI lm X G E N sc){f:Bf}{as:Ex}{n:Str}{T:String}{e:Ð}{l:List Ð}{p pos:Pos}(hc:g60 X (.type T) (rDn X.K (bfD f)))(hb:n∈W71)(hv:í n=some (.type T))(hg:glob sc n=true)(hL:isL as=true)(g:Good X G E as (e::l)):a90 X G E (.bf f as) (.Call (.Name n p) (e::l) [] pos):=by
 obtain⟨k1,k2,k3⟩:=d90 hg;obtain⟨ha,hs⟩:=g.args hL;rw[Ä1,À] at hs;exact b20 (PE.imp (R00 hc (x.glb n k1) (x.blt n hb) hv ha k3 k2 (d50 hs.1 l X.env) (w10 X.env pos hs.2)) O41) rfl
theorem k92:í "len"=some (.builtin "len"):=by decide +kernel
theorem t21:í "sorted"=some (.builtin "sorted"):=by decide +kernel
theorem l02:í "all"=some (.builtin "all"):=by decide +kernel
theorem l12:í "sum"=some (.builtin "sum"):=by decide +kernel
theorem l22:í "min"=some (.builtin "min"):=by decide +kernel
theorem l32:í "max"=some (.builtin "max"):=by decide +kernel
theorem w20:í "isinstance"=some (.builtin "isinstance"):=by decide +kernel
theorem l42:í "int"=some (.type "int"):=by decide +kernel
theorem M10:í "tuple"=some (.type "tuple"):=by decide +kernel
theorem Y80:í "list"=some (.type "list"):=by decide +kernel
theorem N62(x:XI lm X G E N sc){f:Bf}{as:Ex}{n:Str}{e:Ð}{l:List Ð}{p pos:Pos}(hf:served f=true)(hn:n=(bfN f).1)(hg:glob sc n=true)(hL:isL as=true)(g:Good X G E as (e::l)):a90 X G E (.bf f as) (.Call (.Name n p) (e::l) [] pos):=by
 subst hn;cases f with
 |len=>exact k41 x j12 (-0) k92 hg hL g|tuple=>exact W91 x H21 (-0) M10 hg hL g|list=>exact W91 x V91 (-0) Y80 hg hL g|min=>exact k41 x (j42 x.calm) (-0) l22 hg hL g|max=>exact k41 x (j52 x.calm) (-0) l32 hg hL g|all=>exact k41 x (j22 x.calm) (-0) l02 hg hL g|int=>exact W91 x j62 (-0) l42 hg hL g|sorted=>exact k41 x (s91 x.room.units) (-0) t21 hg hL g|sum=>exact k41 x (j32 x.calm) (-0) l12 hg hL g|_=>cases hf
theorem A52(t:Ty)(h:t≠.seq):Á5 (tyN t)∈W71/\í (Á5 (tyN t))=some (.type (tyN t))/\tyN t∈["int","bool","tuple","list","str"]:=by
 cases t with
 |seq=>exact absurd rfl h|_=>decide +kernel
theorem l52(x:XI lm X G E N sc){t:Ty}{a:Ex}{n:Str}{e:Ð}{p pos p2:Pos}(hs:t≠.seq)
  (hg2:glob sc (Á5 (tyN t))=true) (hn:n="isinstance") (hg:glob sc n=true) (ns:noStar e=true) (ga:a90 X G E a e):a90 X G E (.isi t a) (.Call (.Name n p) [e,.Name (Á5 (tyN t)) p2] [] pos):=by
 obtain⟨hb,hv,ht⟩:=A52 t hs;subst hn;obtain⟨k1,k2,k3⟩:=d90 hg;obtain⟨m1,m2,m3⟩:=d90 hg2;refine b20 (PE.imp (J10 G21 (x.glb _ k1) (x.blt _ (-0)) w20 (g70 ga.pe (g70 (W60 (v:=.ty (tyN t)) (x.glb _ m1) (x.blt _ hb) hv rfl m3 m2) v00) (d50 ns _ _)) k3 k2 (d50 ns _ _) rfl) λσ H Q q=>?_) rfl
 obtain⟨zA,ρ,z,rr,rel,st,e,po⟩:=q;refine k40 rel st e (g20 po) λm z1 e1=>?_;obtain⟨d,p1,e2⟩:=M.a10 e1;obtain⟨s1,rfl,q1⟩:=f40 p1;cases e2;refine⟨s1,rfl,λv H1 x1 st1 rv=>⟨d,v,tyN t,rfl,((rv.pl.d_ q1).same (a20 zA H1)).has,ht,?_⟩⟩;rw[W01 t d hs];exact f50 po x1 st1 _ _ (a40.refl H1) k30
theorem l62(x:XI lm X G E N sc){a:Ex}{n:Str}{e:Ð}{p pos p1 p2 p3:Pos}{k:Nat}(hg2:glob sc "tuple"=true)(hg3:glob sc "list"=true)(hn:n="isinstance")(hg:glob sc n=true)(ns:noStar e=true)(ga:a90 X G E a e) :
  a90 X G E (.isi .seq a) (.Call (.Name n p) [e,.Tuple [.Name "tuple" p1,.Name "list" p2] k p3] [] pos):=by
 subst hn;obtain⟨k1,k2,k3⟩:=d90 hg;obtain⟨m1,m2,m3⟩:=d90 hg2;obtain⟨l1,l2,l3⟩:=d90 hg3;refine b20 (PE.imp (J10 q81 (x.glb _ k1) (x.blt _ (-0)) w20 (g70 ga.pe (g70 (M21 (g70 (W60 (v:=.ty "tuple") (x.glb _ m1) (x.blt _ (-0)) M10 rfl m3 m2)
  (g70 (W60 (v:=.ty "list") (x.glb _ l1) (x.blt _ (-0)) Y80 rfl l3 l2) v00))) v00) (d50 ns _ _)) k3 k2 (d50 ns _ _) rfl) λσ H Q q=>?_) rfl
 obtain⟨zA,ρ,z,rr,rel,st,e,po⟩:=q;refine k40 rel st e (g20 po) λm z1 e1=>?_;obtain⟨d,p1,e2⟩:=M.a10 e1;obtain⟨s1,rfl,q1⟩:=f40 p1;cases e2;refine⟨s1,rfl,λv H1 x1 st1 rv=>⟨by show 2<=sizeLine;rw[Á4];decide,λt ht=>?_⟩⟩
 have sm:a40 H1 (upd H1 t (.tup [.ty "tuple",.ty "list"])):=a40.new _ ht;refine⟨d,v,t,rfl,((rv.pl.d_ q1).same (a40.trans (a20 zA H1) sm)).has,SqT.of b50,?_⟩;rw[H41 d];exact f50 po x1 st1 _ _ sm k30
theorem A62(hs:E40 x=true)(ga:a90 X G E a v)(gi:a90 X G E i x):a90 X G E (.idx a i) (.Subscript v x pos):=by
 refine b20 (PE.imp (f82 ixD ga.pe gi.pe (I00 hs)) λσ H Q q=>?_) rfl;obtain⟨zA,ρ,z,rr,rel,st,e,po⟩:=q;refine d41 rel st e (g20 po) λdx dy z2 v w H2 e2 x2 st2 h1 h2=>?_;obtain⟨c,hc,e3⟩:=M.a10 e2;cases e3;exact⟨zA,z2,dx,dy,_,st2,h1,h2,by show Ì5 _ (j81 dx dy)=_;rw[hc];rfl,f50 po x2 st2⟩
theorem l72(x:XI lm X G E N sc){i k:Nat}{n:Str}{c:Nat}{p q pos:Pos}(h1:N[i]?=some n)(h2:c10 n=true):a90 X G E (.zget i k) (.Subscript (.Name n p) (.Constant (.int k) c q) pos):=by
 unfold c10 at h2;simp only[À,ø] at h2;refine b20 (PE.imp (f82 o71 (n80 (i:=i) (by rw[x.hN];exact h1) (x.vis n (é h1)) h2.1 h2.2) n01 (I00 rfl)) λσ H Q qq=>?_) rfl
 obtain⟨zA,ρ,z,rr,rel,st,e,po⟩:=qq;have e0:s01 k ρ[i]? z=some rr:=e;unfold s01 at e0;split at e0
 ·rename_i p hs;obtain⟨v,hv,a,hz',rfl⟩:=rel i .z hs;subst hz';have st':H a=some (.lst [.int p.1,.bl p.2]):=st.zat;refine⟨_,hv,a,[.int p.1,.bl p.2],(k:Int),?_⟩;split at e0
  ·rename_i hk;subst hk;cases e0;obtain⟨s',e',po⟩:=po;cases e';exact⟨_,rfl,rfl,SqL.of st',rfl,po _ H Ext.refl st j10⟩
  ·split at e0
   ·rename_i hk;subst hk;cases e0;obtain⟨s',e',po⟩:=po;cases e';exact⟨_,rfl,rfl,SqL.of st',rfl,po _ H Ext.refl st (C51 Hd.bl)⟩
   ·cases e0
 ·cases e0
theorem d51(a:Int):∀ (n:Nat) {its:List Ä},its.length=n->(∀ i,i < n->∃ v t,its[i]?=some v/\v=.int (a + (i:Nat)) t)->Vals ((Û n).map λ(k:Nat)=>V.int (a + k)) its:=by
 intro n its hl h;have:∀ (m:Nat) (l:List Ä) (o:Nat),l.length=m->(∀ i,i < m->∃ v t,l[i]?=some v/\v=.int (a + (o + i:Nat)) t)->Vals ((Ã8 o m 1).map λ(k:Nat)=>V.int (a + k)) l:=by
  intro m
  induction m with
  |zero =>
   intro l o hl _;rw[List.length_eq_zero_iff.mp hl];exact .nil
  |succ m ih =>
   intro l o hl h;cases l with
   |nil=>cases hl
   |cons x r =>
    obtain⟨v,t,e1,e2⟩:=h 0 (Nat.succ_pos m);simp only[Ü6,Ñ8] at e1;subst e1;rw[Ï9,Â0];refine .cons ⟨t,by rw[e2];simp⟩ (ih r (o + 1) (by simpa using hl) λi hi=>?_)
    obtain⟨v,t,e1,e2⟩:=h (i + 1) (Nat.succ_lt_succ hi);exact⟨v,t,by simpa using e1,by rw[e2];congr 1;omega⟩
 rw[Ì2];exact this n its 0 hl λi hi=>by
  obtain⟨v,t,e1,e2⟩:=h i hi;exact⟨v,t,e1,by rw[e2];simp⟩
theorem t31:í "range"=some (.type "range"):=by decide +kernel
def lrV:List V->Option (Int × Int)
 |[.int j]=>some (0,j)|[.int i,.int j]=>some (i,j)|_=>none
def lrO:Bool->List V->HO
 |true=>HO.tup|false=>HO.lst
def lrT:Bool->String
 |true=>"tuple"|false=>"list"
def A72(b:Bool)(ta:TA):TE:=λσ H Q=>ta σ H λvs H1=>∃ i j:Int,lrV vs=some (i,j)/\-100000 < i/\i < 100000/\-100000 < j/\j < 100000/\∀ l,H1 l=none->Q (.ref l) (upd H1 l (lrO b ((Û (j - i).toNat).map λ(k:Nat)=>V.int (i + k))))
theorem l82{pins:List (È × Obj)}{σ:L2.St}{H1:Hp}{s1:Æ}{r:È}{i j:Int}{t u v:Tok}{Q:VK}(hc:X.calm=true)(I2:Inv X pins σ H1 s1)(hr:Ò8 s1.heap r i j 1 t u v)(i1:-100000 < i)(i2:i < 100000)(j1:-100000 < j)(j2:j < 100000)
  (q:∀ l,H1 l=none->Q (.ref l) (upd H1 l (.lst ((Û (j - i).toNat).map λ(k:Nat)=>V.int (i + k))))):Ñ (Ü X.prog X.w) X.A (call (.type "list") [.ref r]) (EP X pins σ Q) X.xe s1:=by
 have hz:Â7 i j 1=(((j - i).toNat:Nat):Int):=by rw[rangeSize_one];split <;> omega
 refine call_list_range (n:=(j - i).toNat) (I2.ok.hd hc) hr (small_one ∅ ∅ ∅ ∅) hz ∅ λh' tk acc' c' kp hS hacc=>?_
 have rv:Vals ((Û (j - i).toNat).map λ(k:Nat)=>V.int (i + k)) acc'.toList:=by
  refine d51 i (j - i).toNat ?_ λi hi=>?_
  ·rw[È6];exact hacc.1
  ·have hlt:i < acc'.size:=by rw[hacc.1];exact hi
   obtain⟨t,e⟩:=hacc.2 i acc'[i] (Ç4 hlt);exact⟨acc'[i],t,by rw[þ];exact Ç4 hlt,by rw[e];simp⟩
 have hlen:((Û (j - i).toNat).map λ(k:Nat)=>V.int (i + k)).length<=sizeLine:=by rw[Ç,ì,Á4];omega
 have hn:=I2.hok.fresh (Ì _);exact⟨.ref _,_,I2.laid (t':=tk) kp (Ì _) (show i80 X.prog X.w _ h' _ (.lst _) from⟨hlen,acc'.toList,c',rv,by rw[Î3];exact hS⟩),rfl,q _ hn⟩
theorem X01{pins:List (È × Obj)}{σ:L2.St}{H1:Hp}{s1:Æ}{r:È}{i j:Int}{t u v:Tok}{Q:VK}(hc:X.calm=true)(I2:Inv X pins σ H1 s1)(hr:Ò8 s1.heap r i j 1 t u v)(i1:-100000 < i)(i2:i < 100000)(j1:-100000 < j)(j2:j < 100000)
  (q:∀ l,H1 l=none->Q (.ref l) (upd H1 l (.tup ((Û (j - i).toNat).map λ(k:Nat)=>V.int (i + k))))):Ñ (Ü X.prog X.w) X.A (call (.type "tuple") [.ref r]) (EP X pins σ Q) X.xe s1:=by
 have hz:Â7 i j 1=(((j - i).toNat:Nat):Int):=by rw[rangeSize_one];split <;> omega
 refine HT.tuple_range (n:=(j - i).toNat) (I2.ok.hd hc) hr (small_one ∅ ∅ ∅ ∅) hz ∅ λh' tk acc' kp hsz hacc=>?_
 have rv:Vals ((Û (j - i).toNat).map λ(k:Nat)=>V.int (i + k)) acc'.toList:=by
  refine d51 i (j - i).toNat ?_ λi hi=>?_
  ·rw[È6];exact hacc.1
  ·have hlt:i < acc'.size:=by rw[hacc.1];exact hi
   obtain⟨t,e⟩:=hacc.2 i acc'[i] (Ç4 hlt);exact⟨acc'[i],t,by rw[þ];exact Ç4 hlt,by rw[e];simp⟩
 have hlen:((Û (j - i).toNat).map λ(k:Nat)=>V.int (i + k)).length<=sizeLine:=by rw[Ç,ì,Á4];omega
 exact⟨.ref _,_,I2.laid (t':=tk) (λb o e=>Ã _ (kp b o e)) hsz (show i80 X.prog X.w _ _ _ (.tup _) from⟨hlen,acc'.toList,rv,⟨_,Ï _ rfl,rfl,0,by rw[Î3]⟩⟩),rfl,q _ (I2.hok.fresh hsz)⟩
theorem t41(b:Bool){pins:List (È × Obj)}{σ:L2.St}{H1:Hp}{s1:Æ}{r:È}{i j:Int}{t u v:Tok}{Q:VK}(hc:X.calm=true)(I2:Inv X pins σ H1 s1)(hr:Ò8 s1.heap r i j 1 t u v)(i1:-100000 < i)(i2:i < 100000)(j1:-100000 < j)(j2:j < 100000)
  (q:∀ l,H1 l=none->Q (.ref l) (upd H1 l (lrO b ((Û (j - i).toNat).map λ(k:Nat)=>V.int (i + k))))):Ñ (Ü X.prog X.w) X.A (call (.type (lrT b)) [.ref r]) (EP X pins σ Q) X.xe s1:=by
 cases b with
 |true=>exact X01 hc I2 hr i1 i2 j1 j2 q|false=>exact l82 hc I2 hr i1 i2 j1 j2 q
theorem A82(b:Bool):í (lrN b)=some (.type (lrT b)):=by
 cases b with
 |true=>exact M10|false=>exact Y80
theorem t51(b:Bool){e:Ð}{l:List Ð}{ta:TA}{p p2 pos pos2:Pos}(hc:X.calm=true)(hg:Gl X (lrN b))(hm:X.mg (lrN b)=none)(hg2:Gl X "range")(hm2:X.mg "range"=none)(ha:PA X (e::l) ta)(hs:noStar e=true)(hs2:l.all noStar=true) :
  PE X (.Call (.Name (lrN b) p) [.Call (.Name "range" p2) (e::l) [] pos2] [] pos) (A72 b ta):=by
 intro pins s σ H Q I h;refine Call_ (u90 I hg hm (A82 b) (À4 (Calls.spliced_cons ?_) rfl rfl) (by cases b <;> decide) (by cases b <;> decide))
 refine Call_ (u90 I hg2 hm2 t31 (À4 (thn (ha pos2 pins s σ H _ I h) λus s1 ⟨vs,H1,I1,r1,q1⟩=>?_) (d50 hs l X.env) (w10 X.env pos2 hs2)));obtain⟨i,j,hv,i1,i2,j1,j2,q⟩:=q1
 match vs,hv with
 |[.int _],hv =>
  cases hv;obtain⟨u,rfl,r⟩:=vals1 r1;obtain⟨t,rfl⟩:=r;exact call_range_1 (Õ6 (t41 b hc (I1.kept λb o e=>Ã _ e) (Ò8.new ..) i1 i2 j1 j2 q))
 |[.int _,.int _],hv =>
  cases hv;obtain⟨u,u',rfl,r,r'⟩:=vals2 r1;obtain⟨t,rfl⟩:=r;obtain⟨t',rfl⟩:=r';exact call_range_2 (Õ6 (t41 b hc (I1.kept λb o e=>Ã _ e) (Ò8.new ..) i1 i2 j1 j2 q))
theorem H71:∀ {ds xs:List D},lrD ds=some xs->∃ i j:Int,((ds=[.int j]/\i=0)∨ds=[.int i,.int j])/\-100000 < i/\i < 100000/\-100000 < j/\j < 100000/\xs=(Û (j - i).toNat).map λ(k:Nat)=>D.int (i + k)
 |[],_,h=>by cases h
 |[x],xs,h=>by
  cases x with
  |int j =>
   obtain⟨hj,h⟩:=e80 h;have hj:=L10.mp hj;exact⟨0,j,.inl ⟨rfl,rfl⟩,by omega,by omega,hj.1,hj.2,by cases h;simp⟩
  |_=>cases h
 |[x,y],xs,h=>by
  cases x with
  |int i =>
   cases y with
   |int j =>
    obtain⟨hj,h⟩:=e80 h;have h1:=L10.mp hj.1;have h2:=L10.mp hj.2;exact⟨i,j,.inr rfl,h1.1,h1.2,h2.1,h2.2,by cases h;rfl⟩
   |_=>cases h
  |_=>cases h
 |x::y::_::_,_,h=>by
  cases x with
  |int i=>cases y <;> cases h
  |_=>cases h
theorem l92(x:XI lm X G E N sc){b:Bool}{as:Ex}{a:Ð}{l:List Ð}{p p2 pos pos2:Pos}(h1:glob sc (lrN b)=true)(h2:glob sc "range"=true)(hL:isL as=true)(g:Good X G E as (a::l)):a90 X G E (.lrng b as) (.Call (.Name (lrN b) p) [.Call (.Name "range" p2) (a::l) [] pos2] [] pos):=by
 obtain⟨k1,_,_⟩:=d90 h1;obtain⟨m1,_,_⟩:=d90 h2;obtain⟨ha,hs⟩:=g.args hL;rw[Ä1,À] at hs;refine b20 (PE.imp (t51 b x.calm (x.glb _ k1) (x.blt _ (by cases b <;> decide)) (x.glb _ m1) (x.blt _ (-0)) ha hs.1 hs.2) λσ H Q q=>?_) rfl
 obtain⟨zA,ρ,z,rr,rel,st,e,po⟩:=q;refine k31 rel st e (g20 po) λl z1 e1 vs H1 x1 st1 rvs=>?_;obtain⟨xs,hx,e2⟩:=M.a10 e1;cases e2;obtain⟨s',e',po⟩:=po;cases e';obtain⟨ds,h3,h4⟩:=Î.mp hx;have hd:=L90 rvs h3;have fin:∀ i j:Int,xs=(Û (j - i).toNat).map (λ(k:Nat)=>D.int (i + k))->∀ lA,H1 lA=none->Q (.ref lA) (upd H1 lA (lrO b ((Û (j - i).toNat).map λ(k:Nat)=>V.int (i + k)))):=λi j ex lA hn=>by
  subst ex;have hI:=HdA.ints (K:=X.K) (H:=hz zA H1) ((Û (j - i).toNat).map λ(k:Nat)=>i + (k:Int));rw[ô,ô] at hI;cases b with
  |false=>exact po _ _ (x1.trans (Ext.of (a40.new _ hn))) (st1.same (a40.new _ hn)) ((s30 st1 hI hn).from x1)|true=>exact po _ _ (x1.trans (Ext.of (a40.new _ hn))) (st1.same (a40.new _ hn)) (C51 (Hd.tup ((st1.same (a40.new _ hn)).N41 (SqT.of b50)) (hI.same (j00 (a40.new _ hn)))))
 obtain⟨i,j,hds,j1,j2,j3,j4,ex⟩:=H71 h4;refine⟨i,j,?_,j1,j2,j3,j4,fin i j ex⟩;rcases hds with ⟨rfl,rfl⟩ | rfl
 ·obtain⟨v,rfl,h5⟩:=hd.one;cases h5.h60;rfl
 ·obtain⟨v,w,rfl,h5,h6⟩:=hd.two;cases h5.h60;cases h6.h60;rfl
def tPO(K:Â)(G:Gs)(E:XK)(x:Ex):TO:=λσ H Q=>∃ zA ρ z r,B60 K zA H ρ σ/\e20 zA z H/\ev G.F x ρ z=some r/\(match r with
 |.ok l z'=>∃ o,r91 l=some o/\∀ H',Ext zA H H'->e20 zA z' H'->Q o H'
 |.er c z'=>EPost G zA E c z' H)
theorem m02(hL:isL x=true)(g:Good X G E x e.toList):PO X e (tPO X.K G E x):=by
 cases e with
 |none =>
  cases x with
  |nil =>
   refine λpins s σ H Q I q=>R61 pins s σ H Q I ?_;obtain⟨zA,ρ,z,r,rel,st,e,po⟩:=q;cases e;obtain⟨o,e',po⟩:=po;cases e';exact po H Ext.refl st
  |cons a r=>obtain⟨e,es,h,_⟩:=g;cases h
  |_=>cases hL
 |some e =>
  cases x with
  |nil=>cases (show [e]=[] from g)
  |cons a r =>
   obtain⟨e',es,h,ns,ga,lr,gr⟩:=g;cases h;refine λpins s σ H Q I q=>R71 ga.pe pins s σ H Q I ?_;obtain⟨zA,ρ,z,rr,rel,st,e,po⟩:=q;have her:∀ c z1,rr=.er c z1->EPost G zA E c z1 H:=λc z1 e=>by subst e;exact po
   have rn:r=.nil:=by
    cases r with
    |nil=>rfl|cons b q=>obtain⟨e,es,h,_⟩:=gr;cases h
    |_=>cases lr
   subst rn;refine k40 rel st e her λl z1 e1=>?_;obtain⟨s,hs,e2⟩:=M.a10 e1;cases e2;obtain⟨o,e',po⟩:=po;refine⟨s,E30 hs,λv H1 x1 st1 rv=>?_⟩;cases s with
   |d y =>
    cases y with
    |int i =>
     cases e';exact⟨i,Hd.h60 (show Hd X.K (hz zA H1) (.int i) v from rv),po H1 x1 st1⟩
    |_=>cases e'
   |_=>cases e'
  |_=>cases hL
theorem N72{a lo hi:Ex}{v:Ð}{l h:Option Ð}{p pos:Pos}(ga:a90 X G E a v)(hl:isL lo=true)(hh:isL hi=true)(gl:Good X G E lo l.toList)(gh:Good X G E hi h.toList):a90 X G E (.sl a lo hi) (.Subscript v (.Slice l h none p) pos):=by
 refine b20 (PE.imp (D71 M82 ga.pe (m02 hl gl) (m02 hh gh)) λσ H Q q=>?_) rfl;obtain⟨zA,ρ,z,rr,rel,st,e,po⟩:=q;refine k40 rel st e (g20 po) λm z1 e1=>?_;obtain⟨dx,p1,e2⟩:=M.a10 e1;obtain⟨s1,rfl,q1⟩:=f40 p1;refine⟨s1,rfl,λw H1 x1 st1 rv=>?_⟩;rcases M.bind_some e2 with ⟨u,z2,e3,e4⟩ | ⟨c,z2,e3,e4⟩
 ·obtain⟨o,ho,e5⟩:=M.a10 e4;refine⟨zA,ρ,z1,_,rel.mono x1,st1,e3,o,ho,λH2 x2 st2=>?_⟩;rcases M.bind_some e5 with ⟨u',z3,e6,e7⟩ | ⟨c,z3,e6,e7⟩
  ·obtain⟨o',ho',e8⟩:=M.a10 e7;refine⟨zA,ρ,z2,_,(rel.mono x1).mono x2,st2,e6,o',ho',λH3 x3 st3=>?_⟩;obtain⟨s,hs,e9⟩:=M.a10 e8;cases e9;exact⟨zA,z3,dx,s,st3,((rv.pl.mono (x2.trans x3)).d_ q1),hs,f50 po ((x1.trans x2).trans x3) st3⟩
  ·exact⟨zA,ρ,z2,_,(rel.mono x1).mono x2,st2,e6,((g20 po) c z3 e7).mono (x1.trans x2)⟩
 ·exact⟨zA,ρ,z1,_,rel.mono x1,st1,e3,((g20 po) c z2 e4).mono x1⟩
theorem m12:∀ {x:Ex}{es:List Ð}{z z1:Z}{l:List S},isL x=true->Good X G E x es->ev G.F x ρ z=some (.ok l z1)->l.length=es.length:=by
 intro x
 induction x with
 |nil =>
  intro es z z1 l _ h e;have h:es=[]:=h;subst h;cases e;rfl
 |cons a r _ ih =>
  intro es z z1 l _ h e;obtain⟨e',es',rfl,ns,g,lr,gr⟩:=h;rcases M.bind_some e with ⟨m,z2,e1,e2⟩ | ⟨c,z2,e1,e2⟩
  ·obtain⟨s,hs,e3⟩:=M.a10 e2;rcases M.bind_some e3 with ⟨m',z3,e4,e5⟩ | ⟨c,z3,e4,e5⟩
   ·cases e5;rw[Ú,Ú,ih lr gr e4]
   ·cases e5
  ·cases e2
 |_=>intro es z z1 l h;cases h
theorem s_call(x:XI lm X G E N sc){f:Nat}{as:Ex}{n:Str}{ps:List Str}{e:Ð}{l:List Ð}{p pos:Pos}(hf:G.fns[f]?=some (n,ps))(hl:ps.length=l.length + 1)(hg:glob sc n=true)(hL:isL as=true)(g:Good X G E as (e::l)) :
  a90 X G E (.call f as) (.Call (.Name n p) (e::l) [] pos):=by
 obtain⟨k1,k2,k3⟩:=d90 hg;obtain⟨fa,fd,m1,m2,m3,F⟩:=x.gok f n ps hf;obtain⟨ha,hs⟩:=g.args hL;rw[Ä1,À] at hs;refine b20 (PE.imp (R31 F x.room (x.glb n k1) m1 m2 m3 .nil x.pas ha k2 (d50 hs.1 l X.env) (w10 X.env pos hs.2)) λσ H Q q=>?_) rfl;obtain⟨zA,ρ,z,rr,rel,st,e,po⟩:=q;have e0:M.bind (ev G.F as ρ) (λl=>M.bind (G.F false f (l.map plS)) λs=>M.ret [s]) z=some rr:=e;rcases M.bind_some e0 with ⟨m,z1,e1,e2⟩ | ⟨c,z1,e1,e2⟩
 ·refine⟨zA,ρ,z,_,rel,st,e1,λvs H1 x1 st1 rvs=>?_⟩;have hv:vs.length=ps.length:=by rw[← rvs.length,m12 hL g e1,hl];rfl
  show spF X.K G f ps.length (vs++[]) H1 Q E;rw[Ë0];refine⟨hv,zA,z1,m.map plS,?_⟩;have ra:RvA X.K zA H1 (m.map plS) vs:=RvA.plS (Ã4.b92 rvs λ_ _ q=>q.pl);rcases M.bind_some e2 with ⟨s,z2,e3,e4⟩ | ⟨c,z2,e3,e4⟩
  ·cases e4;refine⟨_,ra,st1,e3,λv H2 x2 st2 rv=>?_⟩;obtain⟨s',e',po⟩:=po;cases e';exact po v H2 (x1.trans x2) st2 (rv.from x1)
  ·exact⟨_,ra,st1,e3,((g20 po) c z2 e4).mono x1⟩
 ·exact⟨zA,ρ,z,_,rel,st,e1,(g20 po) c z1 e2⟩
def s32:Pat->Nat
 |.nil=>0|.cons _ r=>s32 r + 1|_=>0
mutual
noncomputable def gP(K:Â):Pat->TG
 |.v i=>Q00 i|.tup ps=>F12 K (s32 ps) (gL K ps)|.nil=>λ_ _ _ _=>False|.cons _ _=>λ_ _ _ _=>False
noncomputable def gL(K:Â):Pat->TGs
 |.nil=>F02|.cons p r=>e12 (gP K p) (gL K r)|.v _=>λ_ _ _ _=>False|.tup _=>λ_ _ _ _=>False
end
end
end Q
namespace Q
open PySem L2 PySem.Spec PyProof.Rows
variable [TB:Tb]
theorem O51(h:noStar e=true)(es:List Ð)(env:Ç1):È2 (e::es) env=(false,Õ1 e env)::È2 es env:=by
 cases e <;> first | rfl | cases h
structure H81(X:Cx)(N:List Str)(loc:Str->Bool):Prop where
 hN:X.N=N
 nd:N.Nodup
 lc:∀ x,loc x=true->Loc X.env.scope x
 fn:∀ x,loc x=true->(X.fn x=true∨X.env.scope.names.lookup x=some .local)
 calm:X.calm=true
theorem I10:∀ {es:List Ð} (env:Ç1),es.all noStar=true->(È2 es env).length=es.length/\(È2 es env).findIdx? (·.1)=none
 |[],_,_=>⟨rfl,rfl⟩
 |e::es,env,h=>by
  rw[Ä1,À] at h;obtain⟨h1,h2⟩:=I10 env h.2;rw[O51 h.1];refine⟨by rw[Ú,Ú,h1],?_⟩
  rw[List.findIdx?_cons,h2];rfl
theorem d61:∀ {r:Pat}{es:List Ð},d31 N loc r es=true->es.length=s32 r/\es.all noStar=true
 |.nil,es,h=>by
  unfold d31 at h;have:es=[]:=Ð0.mp h;subst this;exact⟨rfl,rfl⟩
 |.cons p r,es,h=>by
  unfold d31 at h;cases es with
  |nil=>cases h
  |cons e es =>
   rw[À,À] at h;obtain⟨h1,h2⟩:=d61 (r:=r) h.2;exact⟨by rw[Ú,h1];rfl,by rw[Ä1,h.1.1,h2];rfl⟩
 |.v _,_,h=>by unfold d31 at h;cases h
 |.tup _,_,h=>by unfold d31 at h;cases h
mutual
theorem k51(L:H81 X N loc):∀ {p:Pat}{e:Ð},i10 N loc p e=true->PG X e (gP X.K p)
 |.v i,e,h=>by
  unfold i10 at h;cases e with
  |Name x pos =>
   rw[À,beq_iff_eq] at h;unfold gP;exact n31 (by rw[L.hN];exact L.nd) (by rw[L.hN];exact h.1) (L.lc x h.2) (L.fn x h.2)
  |_=>cases h
 |.tup ps,e,h=>by
  unfold i10 at h;cases e with
  |Tuple es k pos =>
   obtain⟨h1,h2⟩:=d61 h;obtain⟨h3,h4⟩:=I10 X.env h2;unfold gP;exact e22 L.calm (O61 L h) (by rw[h3,h1]) h4
  |_=>cases h
 |.nil,e,h=>by unfold i10 at h;cases h
 |.cons _ _,e,h=>by unfold i10 at h;cases h
theorem O61(L:H81 X N loc):∀ {r:Pat}{es:List Ð},d31 N loc r es=true->PGs X es (gL X.K r)
 |.nil,es,h=>by
  unfold d31 at h;have:es=[]:=Ð0.mp h;subst this;unfold gL;exact Q91
 |.cons p r,es,h=>by
  unfold d31 at h;cases es with
  |nil=>cases h
  |cons e es =>
   rw[À,À] at h;unfold gL;exact D01 (k51 L h.1.2) (O61 L h.2) (by rw[O51 h.1.1];rfl)
 |.v _,_,h=>by unfold d31 at h;cases h
 |.tup _,_,h=>by unfold d31 at h;cases h
end
section
variable {K:Â}{zA:Option È}{H:Hp}
theorem B60.set{ρ:Env}{σ:L2.St}{i:Nat}{s:S}{v:V}(h:B60 K zA H ρ σ)(hl:ρ.length=σ.length)(r:RvP K zA H s v):B60 K zA H (ρ.set i (some s)) (σ.set i (some v)):=by
 intro j t e;by_cases hj:j=i
 ·subst hj;have hlt:j < ρ.length:=by
   have:=(ä.mp e).1;simpa using this
  rw[Ý hlt] at e;cases e;exact⟨v,Ý (by rw[← hl];exact hlt),r⟩
 ·rw[Õ (À6 hj)] at e;obtain⟨w,h1,h2⟩:=h j t e;exact⟨w,by rw[Õ (À6 hj)];exact h1,h2⟩
theorem E50:∀ {r:Pat}{l:List D}{ρ ρ':Env},bindL r l ρ=some ρ'->l.length=s32 r
 |.nil,l,ρ,ρ',e=>by
  unfold bindL at e;cases l with
  |nil=>rfl|cons x l=>cases e
 |.cons p r,l,ρ,ρ',e=>by
  unfold bindL at e;cases l with
  |nil=>cases e
  |cons x l =>
   obtain⟨ρ1,e1,e2⟩:=Î.mp e;rw[Ú,E50 e2];rfl
 |.v _,_,_,_,e=>by unfold bindL at e;cases e
 |.tup _,_,_,_,e=>by unfold bindL at e;cases e
mutual
theorem t61:∀ {p:Pat}{d:D}{ρ ρ':Env},e90 p d ρ=some ρ'->∀ {σ:L2.St}{v:V}{R:L2.St->Hp->Prop},B60 K zA H ρ σ->ρ.length=σ.length->Hd K (hz zA H) d v ->
  (∀ σ',B60 K zA H ρ' σ'->ρ'.length=σ'.length->R σ' H)->gP K p v σ H R
 |.v i,d,ρ,ρ',e,σ,v,R,rel,hl,hd,k=>by
  unfold e90 at e;cases e;unfold gP;exact k _ (rel.set hl (show RvP K zA H (.d d) v from hd)) (by rw[û,û,hl])
 |.tup ps,d,ρ,ρ',e,σ,v,R,rel,hl,hd,k=>by
  unfold e90 at e;cases d with
  |tup l =>
   obtain⟨a,xs,rfl,h1,h2⟩:=hd.B40;unfold gP;exact⟨a,xs,rfl,(a20 zA H).sqT h1,by rw[h2.length];exact E50 e,d71 e rel hl h2 k⟩
  |_=>cases e
 |.nil,_,_,_,e,_,_,_,_,_,_,_=>by unfold e90 at e;cases e
 |.cons _ _,_,_,_,e,_,_,_,_,_,_,_=>by unfold e90 at e;cases e
theorem d71:∀ {r:Pat}{l:List D}{ρ ρ':Env},bindL r l ρ=some ρ'->∀ {σ:L2.St}{vs:List V}{R:L2.St->Hp->Prop},B60 K zA H ρ σ->ρ.length=σ.length->HdA K (hz zA H) l vs ->
  (∀ σ',B60 K zA H ρ' σ'->ρ'.length=σ'.length->R σ' H)->gL K r vs σ H R
 |.nil,l,ρ,ρ',e,σ,vs,R,rel,hl,hd,k=>by
  unfold bindL at e;cases l with
  |nil =>
   cases e;unfold gL;exact⟨hd.f30,k σ rel hl⟩
  |cons x l=>cases e
 |.cons p r,l,ρ,ρ',e,σ,vs,R,rel,hl,hd,k=>by
  unfold bindL at e;cases l with
  |nil=>cases e
  |cons x l =>
   obtain⟨ρ1,e1,e2⟩:=Î.mp e;obtain⟨v,ws,rfl,h1,h2⟩:=hd.c00;unfold gL;exact⟨v,ws,rfl,t61 e1 rel hl h1 λσ' r' l'=>d71 e2 r' l' h2 k⟩
 |.v _,_,_,_,e,_,_,_,_,_,_,_=>by unfold bindL at e;cases e
 |.tup _,_,_,_,e,_,_,_,_,_,_,_=>by unfold bindL at e;cases e
end
end
end Q
namespace Q
open PySem L2 PySem.Spec PyProof.Rows
variable [TB:Tb]
structure A92(K:PySem.W.Frag)(zA:Option Addr)(J:L2.It)(xs:List D)(H1:Hp):Prop where
 go:∀ i H,Ext zA H1 H->i < xs.length->J.go i H
 yld:∀ i H x H' z d,Ext zA H1 H->e20 zA z H->J.yld i H x H'->xs[i]?=some d->a40 H H'/\Hd K (hz zA H') d x
 stop:∀ H,Ext zA H1 H->J.stop xs.length H
structure ItB(K:PySem.W.Frag)(J:L2.It)(xs:List D)(B:Hp):Prop where
 go:∀ i H,a40 B H->i < xs.length->J.go i H
 yld:∀ i H x H' zA z d,a40 B (hz zA H)->e20 zA z H->J.yld i H x H'->xs[i]?=some d->a40 H H'/\∀ C,a40 B C->(∀ a ys,SqT K (hz zA H') a ys->SqT K C a ys)->Hd K C d x
 stop:∀ H,a40 B H->J.stop xs.length H
section
variable {K:Â}{B:Hp}
theorem ItB.ok(h:ItB K J xs (hz zA H1)):A92 K zA J xs H1 :=
 ⟨λi H x=>h.go i H (a40.trans x (a20 zA H)),λi H x H' z d e st y k=>let ⟨s,f⟩:=h.yld i H x H' zA z d e st y k;⟨s,f _ (a40.trans e (j00 s)) λ_ _ q=>q⟩,λH x=>h.stop H (a40.trans x (a20 zA H))⟩
theorem d81(h:r90 K B a ys)(r:HdA K B xs ys):ItB K (Itl K a) xs B where
 go:=λi H x hi=>⟨ys,ys[i]'(by rw[r.length];exact hi),(h.same x).sq,by simp⟩
 yld:=λi H v H' zA z d x st y e=>by
  obtain⟨rfl,y⟩:=y;have y1:=y ys ((h.same x).same (a20 zA _)).sq;obtain⟨w,e1,e2⟩:=r.get e;rw[y1] at e1;cases e1;exact⟨a40.refl _,λC c _=>e2.same c⟩
 stop:=λH x=>⟨ys,(h.same x).sq,by rw[r.length];exact Ì _⟩
theorem t71(h:SqT K B a ys)(r:HdA K B xs ys):ItB K (Itt K a) xs B where
 go:=λi H x hi=>⟨ys,ys[i]'(by rw[r.length];exact hi),a40.sqT x h,by simp⟩
 yld:=λi H v H' zA z d x st y e=>by
  obtain⟨rfl,y⟩:=y;have y1:=y ys ((a20 zA _).sqT (a40.sqT x h));obtain⟨w,e1,e2⟩:=r.get e;rw[y1] at e1;cases e1;exact⟨a40.refl _,λC c _=>e2.same c⟩
 stop:=λH x=>⟨ys,a40.sqT x h,by rw[r.length];exact Ì _⟩
theorem t81(lo:Int)(n:Nat):ItB K (Itr lo n) ((Û n).map λ(k:Nat)=>D.int (lo + k)) B where
 go:=λi H x hi=>by show i < n;simpa using hi
 yld:=λi H v H' zA z d x st y e=>by
  obtain⟨rfl,rfl⟩:=y;rw[Ö] at e;obtain⟨k,e1,rfl⟩:=Ë.mp e;obtain⟨h1,h2⟩:=ä.mp e1;rw[List.getElem_range] at h2;subst h2;exact⟨a40.refl _,λ_ _ _=>Hd.int⟩
 stop:=λH x=>by show n<=_;simp
end
section
variable {K:Â}{zA:Option È}{H1:Hp}
theorem zip_get:∀ {a b:List D}{i:Nat}{d:D},(B30 a b)[i]?=some d->∃ x y,a[i]?=some x/\b[i]?=some y/\d=.tup [x,y]
 |[],_,_,_,e=>by simp[B30] at e|_::_,[],_,_,e=>by simp[B30] at e|x::r,y::q,0,d,e=>by simp[B30] at e;exact⟨x,y,rfl,rfl,e.symm⟩
 |x::r,y::q,i + 1,d,e=>by
  obtain⟨u,v,h1,h2,h3⟩:=zip_get (a:=r) (b:=q) (i:=i) (by simpa [B30] using e)
  exact⟨u,v,by simpa using h1,by simpa using h2,h3⟩
theorem Y90:∀ (a b:List D),(B30 a b).length=min a.length b.length
 |[],_=>by simp[B30]|_::_,[]=>by simp[B30]|x::r,y::q=>by simp only[B30,Ú,Y90 r q];omega
theorem t91(h:∀ H,a40 B H->SqB bb K H a us)(r:HdA K B xs us)(h':∀ H,a40 B H->SqB bb K H b ws)(r':HdA K B ys ws):ItB K (Itz bb K a b) (B30 xs ys) B where
 go:=λi H x hi=>by
  rw[Y90] at hi;exact⟨us,ws,us[i]'(by rw[r.length];omega),ws[i]'(by rw[r'.length];omega),h H x,h' H x,by simp,by simp⟩
 yld:=λi H v H' zA z d x st y e=>by
  obtain⟨T,rfl,hT,y⟩:=y;obtain⟨d1,d2,e1,e2,rfl⟩:=zip_get e;obtain⟨w1,f1,g1⟩:=r.get e1;obtain⟨w2,f2,g2⟩:=r'.get e2;have y1:=y us ws w1 w2 (h H (a40.trans x (a20 zA H))) (h' H (a40.trans x (a20 zA H))) f1 f2;subst y1;have sm:a40 H (upd H T (.tup [w1,w2])):=a40.new _ hT;exact⟨sm,λC c t=>Hd.tup (t _ _ ((st.same sm).N41 (SqT.of b50))) (.cons (g1.same c) (.cons (g2.same c) .nil))⟩
 stop:=λH x=>⟨us,ws,h H x,h' H x,by rw[Y90,r.length,r'.length];omega⟩
end
def PX(P:D->Prop):D->Prop
 |.tup l=>∀ y∈l,P y|.lst l=>∀ y∈l,P y|_=>True
def ItX(K:Â)(zA:Option È)(H H':Hp)(l:List S)(J:L2.It)(xs:List D):Prop :=
 ∀ (P:D->Prop) (B:Hp),a40 B (hz zA H')->(∀ a ys,SqT K (hz zA H') a ys->SqT K B a ys)->(∀ d v,P d->Hd K (hz zA H') d v->Hd K B d v)->(∀ ds,plA l=some ds->∀ d∈ds,PX P d) ->
  (∀ a ys,r90 K (hz zA H') a ys->((H a=none/\H' a=some (.lst ys))∨k11 l=true)->r90 K B a ys)->ItB K J xs B
theorem HdA.move{K:Â}{H B:Hp}{P:D->Prop}(mv:∀ d v,P d->Hd K H d v->Hd K B d v):∀ {ds:List D}{vs:List V},(∀ y∈ds,P y)->HdA K H ds vs->HdA K B ds vs
 |[],_,_,h=>by rw[h.f30];exact .nil
 |d::ds,_,p,h=>by
  obtain⟨x,r,rfl,h1,h2⟩:=h.c00;exact .cons (mv d x (p d É) h1) (HdA.move mv (λy hy=>p y (Å _ hy)) h2)
theorem ItX.ok{K:Â}{zA:Option È}{H H':Hp}{l:List S}{J:L2.It}{xs:List D}(h:ItX K zA H H' l J xs):A92 K zA J xs H':=by
 refine(h (λ_=>True) (hz zA H') (a40.refl _) (λ_ _ q=>q) (λ_ _ _ q=>q) (λds _ d _=>?_) λ_ _ q _=>q).ok;cases d <;> first | trivial | exact λ_ _=>trivial
def tIt(K:Â)(G:Gs)(E:XK)(it:It)(src:Ex):TI:=λσ H R=>∃ zA ρ z r,B60 K zA H ρ σ/\e20 zA z H/\ev G.F src ρ z=some r/\(match r with
 |.ok l z'=>∃ xs,(plA l).bind (itD it)=some xs/\∀ J H',Ext zA H H'->e20 zA z' H'->ItX K zA H H' l J xs->R J H'
 |.er c z'=>EPost G zA E c z' H)
section
variable {lm:Bool}{X:Cx}{G:Gs}{E:XK}{N:List Str}{sc:Á3}
theorem m22{zA:Option È}{H:Hp}{it:It}{P:L2.It->Hp->Prop}{r:R (List S)}(po:(match r with | .ok l z'=>∃ xs,(plA l).bind (itD it)=some xs/\∀ J H',Ext zA H H'->e20 zA z' H'->ItX X.K zA H H' l J xs->P J H' | .er c z'=>EPost G zA E c z' H)):∀ c z1,r=.er c z1->EPost G zA E c z1 H:=λc z1 e=>by subst e;exact po
theorem u01{s:S}{ds:List D}(h:plA [s]=some ds):∃ d,ds=[d]/\plD s=some d:=by
 cases s with
 |d x=>cases h;exact⟨x,rfl,rfl⟩
 |fr xs=>cases h;exact⟨_,rfl,rfl⟩
 |_=>cases h
theorem O71{tg e:Ð}{a:Ex}(g:a90 X G E a e):PI X tg e (tIt X.K G E .seq (.cons a .nil)):=by
 intro pins s σ H R I q;obtain⟨zA,ρ,z,rr,rel,st,ee,po⟩:=q;have e0:M.bind (ev G.F a ρ) (λx=>M.bind (M.of (one x)) λs=>M.bind (ev G.F .nil ρ) λy=>M.ret (s::y)) z=some rr:=ee;rcases M.bind_some e0 with ⟨m,z1,e1,e2⟩ | ⟨c,z1,e1,e2⟩
 ·obtain⟨t,ht,e3⟩:=M.a10 e2;cases e3;have hm:=E30 ht;subst hm;obtain⟨xs,hx,po⟩:=po;obtain⟨ds,h1,h2⟩:=Î.mp hx;obtain⟨d,rfl,h3⟩:=u01 h1;cases d with
  |tup l =>
   cases h2;refine M11 g.pe pins s σ H R I ⟨zA,ρ,z,_,rel,st,e1,t,rfl,λv H1 x1 st1 rv=>?_⟩;obtain⟨b,ys,rfl,k1,k2⟩:=(rv.pl.d_ h3).B40;exact⟨b,rfl,⟨ys,(a20 zA H1).sqT k1⟩,po _ H1 x1 st1 λP B sub tup mv pa sf=>t71 (tup _ _ k1) (HdA.move mv (show ∀ y∈xs,P y from pa _ h1 _ É) k2)⟩
  |lst l =>
   cases h2;refine W80 g.pe pins s σ H R I ⟨zA,ρ,z,_,rel,st,e1,t,rfl,λv H1 x1 st1 rv=>?_⟩;have fin:∀ {b:È}{ys:List V},r90 X.K (hz zA H1) b ys->HdA X.K (hz zA H1) xs ys->((H b=none/\H1 b=some (.lst ys))∨k11 [t]=true)->∃ a,V.ref b=.ref a/\(∃ xs,SqL X.K H1 a xs)/\R (Itl X.K a) H1:=λ{b ys} k1 k2 k5=>by
    exact⟨b,rfl,⟨ys,(k1.same (a20 zA H1)).sq⟩,po _ H1 x1 st1 λP B sub tup mv pa sf=>d81 (sf _ _ k1 k5) (HdA.move mv (show ∀ y∈xs,P y from pa _ h1 _ É) k2)⟩
   cases t with
   |d x =>
    cases h3;obtain⟨b,ys,rfl,k1,k2⟩:=Hd.c61 (show Hd X.K (hz zA H1) (.lst xs) v from rv);exact fin k1 k2 (.inr rfl)
   |fr x =>
    cases h3;obtain⟨b,ys,rfl,k0,k1,k2,k3⟩:=rv;exact fin (r90.of (d20 k2 k1)) (k3.same (d80 b _)) (.inl ⟨k0,k2⟩)
   |_=>cases h3
  |_=>cases h2
 ·exact W80 g.pe pins s σ H R I ⟨zA,ρ,z,_,rel,st,e1,(m22 po) c z1 e2⟩
theorem M20{l:List S}{it:It}{xs:List D}(h:(plA l).bind (itD it)=some xs):∃ ds,plA l=some ds/\itD it ds=some xs:=Î.mp h
theorem u11(x:XI lm X G E N sc){tg a:Ð}{as:Ex}{n:Str}{p pos:Pos}(hn:n="range")(hg:glob sc n=true)(hL:isL as=true)(g:Good X G E as [a]):PI X tg (.Call (.Name n p) [a] [] pos) (tIt X.K G E .rng1 as):=by
 subst hn;obtain⟨k1,k2,k3⟩:=d90 hg;obtain⟨ha,hs⟩:=g.args hL;rw[Ä1,À] at hs;intro pins s σ H R I q;refine n51 (x.glb _ k1) (x.blt _ (-0)) ha (d50 hs.1 [] X.env) pins s σ H R I ?_
 obtain⟨zA,ρ,z,rr,rel,st,ee,po⟩:=q;refine⟨zA,ρ,z,rr,rel,st,ee,?_⟩;cases rr with
 |er c z1=>exact po
 |ok l z1 =>
  obtain⟨xs,hx,po⟩:=po;intro vs H1 x1 st1 rvs;obtain⟨ds,h1,h2⟩:=M20 hx;have hd:=L90 rvs h1
  match ds,h2 with
  |[.int j],h2 =>
   obtain⟨hj,h2⟩:=e80 h2;have hj:=L10.mp hj;cases h2;obtain⟨v,rfl,h3⟩:=hd.one;cases h3.h60;refine⟨j,rfl,by omega,by omega,po _ H1 x1 st1 λP B sub tup mv pa sf=>?_⟩
   have:=t81 (K:=X.K) (B:=B) 0 j.toNat;simpa using this
theorem u21(x:XI lm X G E N sc){tg a b:Ð}{as:Ex}{n:Str}{p pos:Pos}(hn:n="range")(hg:glob sc n=true)(hL:isL as=true)(g:Good X G E as [a,b]):PI X tg (.Call (.Name n p) [a,b] [] pos) (tIt X.K G E .rng2 as):=by
 subst hn;obtain⟨k1,k2,k3⟩:=d90 hg;obtain⟨ha,hs⟩:=g.args hL;rw[Ä1,Ä1,À,À] at hs;intro pins s σ H R I q;refine n61 (x.glb _ k1) (x.blt _ (-0)) ha (by rw[d50 hs.1,d50 hs.2.1];rfl) (d50 hs.2.1 [] X.env) pins s σ H R I ?_
 obtain⟨zA,ρ,z,rr,rel,st,ee,po⟩:=q;refine⟨zA,ρ,z,rr,rel,st,ee,?_⟩;cases rr with
 |er c z1=>exact po
 |ok l z1 =>
  obtain⟨xs,hx,po⟩:=po;intro vs H1 x1 st1 rvs;obtain⟨ds,h1,h2⟩:=M20 hx;have hd:=L90 rvs h1
  match ds,h2 with
  |[.int i,.int j],h2 =>
   obtain⟨hj,h2⟩:=e80 h2;have hi:=L10.mp hj.1;have hj:=L10.mp hj.2;cases h2;obtain⟨v,w,rfl,h3,h4⟩:=hd.two;cases h3.h60;cases h4.h60;exact⟨i,j,rfl,by omega,po _ H1 x1 st1 λP B sub tup mv pa sf=>t81 i (j - i).toNat⟩
theorem u31{s:S}{r:List S}{ds:List D}(h:plA (s::r)=some ds):∃ x q,ds=x::q/\plD s=some x/\plA r=some q:=by
 cases s with
 |d y =>
  obtain⟨q,e,rfl⟩:=Ë.mp h;exact⟨y,q,rfl,rfl,e⟩
 |fr y =>
  obtain⟨q,e,rfl⟩:=Ë.mp h;exact⟨_,q,rfl,rfl,e⟩
 |_=>cases h
theorem X11(h:plA l=some [x,y]):∃ s t,l=[s,t]/\plD s=some x/\plD t=some y:=by
 cases l with
 |nil=>cases h
 |cons s r =>
  obtain⟨_,_,e,h1,h2⟩:=u31 h;cases e;cases r with
  |nil=>cases h2
  |cons t r =>
   obtain⟨_,_,e,h3,h4⟩:=u31 h2;cases e;cases r with
   |nil=>exact⟨s,t,rfl,h1,h3⟩
   |cons u r =>
    obtain⟨_,_,e,_⟩:=u31 h4;cases e
theorem H91{s t:S}(h:k11 [s]=true):k11 [s,t]=true:=by
 match s,h with
 |.d (.lst _),_=>rfl
theorem I01{s t:S}(h:k11 [t]=true):k11 [s,t]=true:=by
 match s with
 |.d (.lst _)=>rfl|.d .non | .d (.bl _) | .d (.int _) | .d (.str _) | .d (.tup _) | .d .dct | .fr _ | .z=>exact h
theorem u41{K:Â}{zA:Option È}{H H1:Hp}{t:S}{v:V}{a:List D}(rv:RvS K zA H H1 t v)(h:plD t=some (.lst a)):∃ b ys,v=.ref b/\r90 K (hz zA H1) b ys/\HdA K (hz zA H1) a ys/\((H b=none/\H1 b=some (.lst ys))∨k11 [t]=true):=by
 cases t with
 |d x =>
  cases h;obtain⟨b,ys,rfl,k1,k2⟩:=Hd.c61 (show Hd K (hz zA H1) (.lst a) _ from rv);exact⟨b,ys,rfl,k1,k2,.inr rfl⟩
 |fr x =>
  cases h;obtain⟨b,ys,rfl,k0,k1,k2,k3⟩:=rv;exact⟨b,ys,rfl,r90.of (d20 k2 k1),k3.same (d80 b _),.inl ⟨k0,k2⟩⟩
 |_=>cases h
theorem u51(x:XI lm X G E N sc){tg a b:Ð}{as:Ex}{n:Str}{p pos:Pos}(ht:m00 tg=true)(hn:n="zip")(hg:glob sc n=true)(hL:isL as=true)(g:Good X G E as [a,b]):PI X tg (.Call (.Name n p) [a,b] [] pos) (tIt X.K G E .zip as):=by
 subst hn;obtain⟨k1,k2,k3⟩:=d90 hg;obtain⟨ha,hs⟩:=g.args hL;rw[Ä1,Ä1,À,À] at hs;cases tg with
 |Tuple es ek ep =>
  intro pins s σ H R I q;refine g32 (x.glb _ k1) (x.blt _ (-0)) ha (by rw[d50 hs.1,d50 hs.2.1];rfl) (d50 hs.2.1 [] X.env) pins s σ H R I ?_
  obtain⟨zA,ρ,z,rr,rel,st,ee,po⟩:=q;refine⟨zA,ρ,z,rr,rel,st,ee,?_⟩;cases rr with
  |er c z1=>exact po
  |ok l z1 =>
   obtain⟨xs,hx,po⟩:=po;intro vs H1 x1 st1 rvs;obtain⟨ds,h1,h2⟩:=M20 hx;have hd:=L90 rvs h1
   match ds,h2 with
   |[.tup a,.tup b],h2 =>
    cases h2;obtain⟨v,w,rfl,h3,h4⟩:=hd.two;obtain⟨p1,us,rfl,m1,m2⟩:=h3.B40;obtain⟨p2,ws,rfl,m3,m4⟩:=h4.B40;exact⟨false,p1,p2,rfl,⟨us,(a20 zA H1).sqT m1⟩,⟨ws,(a20 zA H1).sqT m3⟩,po _ H1 x1 st1 λP B sub tup mv pa sf=>t91 (λ_ x=>a40.sqT x (tup _ _ m1)) (HdA.move mv (show ∀ y∈a,P y from pa _ h1 _ É) m2) (λ_ x=>a40.sqT x (tup _ _ m3)) (HdA.move mv (show ∀ y∈b,P y from pa _ h1 _ (Å _ É)) m4)⟩
   |[.lst a,.lst b],h2 =>
    cases h2;obtain⟨t1,t2,rfl,e1,e2⟩:=X11 h1;cases rvs with
    |cons rv1 rn =>
     cases rn with
     |cons rv2 rn =>
      cases rn;obtain⟨p1,us,rfl,m1,m2,m3⟩:=u41 rv1 e1;obtain⟨p2,ws,rfl,m4,m5,m6⟩:=u41 rv2 e2;refine⟨true,p1,p2,rfl,⟨us,(m1.same (a20 zA H1)).sq⟩,⟨ws,(m4.same (a20 zA H1)).sq⟩,po _ H1 x1 st1 λP B sub tup mv pa sf=>t91 (λ_ x=>((sf _ _ m1 (m3.imp id λq=>?_)).same x).sq) (HdA.move mv (show ∀ y∈a,P y from pa _ h1 _ É) m2) (λ_ x=>((sf _ _ m4 (m6.imp id λq=>?_)).same x).sq) (HdA.move mv (show ∀ y∈b,P y from pa _ h1 _ (Å _ É)) m5)⟩
      ·exact H91 q
      ·exact I01 q
 |_=>cases ht
theorem d91:∀ {a:List D}{i n:Nat}{d:D},(v90 a n)[i]?=some d->∃ x,a[i]?=some x/\d=.tup [.int ((n + i:Nat):Int),x]
 |[],_,_,_,e=>by simp[v90] at e|x::r,0,n,d,e=>by simp[v90] at e;exact⟨x,rfl,e.symm⟩
 |x::r,i + 1,n,d,e=>by
  obtain⟨u,h1,h2⟩:=d91 (a:=r) (i:=i) (n:=n + 1) (by simpa [v90] using e)
  exact⟨u,by simpa using h1,by rw[h2,show n + 1 + i=n + (i + 1) by omega]⟩
theorem w30:∀ (a:List D) (n:Nat),(v90 a n).length=a.length
 |[],_=>rfl|x::r,n=>by simp only[v90,Ú,w30 r]
theorem e01(h:∀ H,a40 B H->SqB b X.K H a us)(r:HdA X.K B xs us):ItB X.K (Ite b X.K a) (v90 xs 0) B where
 go:=λi H x hi=>by
  rw[w30] at hi;exact⟨us,us[i]'(by rw[r.length];omega),h H x,by simp⟩
 yld:=λi H v H' zA z d x st y e=>by
  obtain⟨T,rfl,hT,y⟩:=y;obtain⟨d1,e1,rfl⟩:=d91 e;obtain⟨w1,f1,g1⟩:=r.get e1;have y1:=y us w1 (h H (a40.trans x (a20 zA H))) f1;subst y1;have sm:a40 H (upd H T (.tup [.int i,w1])):=a40.new _ hT;exact⟨sm,λC c t=>Hd.tup (t _ _ ((st.same sm).N41 (SqT.of b50))) (.cons (by rw[Nat.zero_add];exact Hd.int) (.cons (g1.same c) .nil))⟩
 stop:=λH x=>⟨us,h H x,by rw[w30,r.length]⟩
theorem X21(h:plA l=some [d]):∃ s,l=[s]:=by
 cases l with
 |nil=>cases h
 |cons s r =>
  cases r with
  |nil=>exact⟨s,rfl⟩|cons t q=>exfalso;cases s <;> cases t <;> first | (cases h;done) | (simp only[plA,Option.map_map,Ñ5] at h;obtain⟨_,_,h⟩:=h;cases h)
theorem M30(x:XI lm X G E N sc){tg a:Ð}{as:Ex}{n:Str}{p pos:Pos}(ht:m00 tg=true)(hn:n="enumerate")(hg:glob sc n=true)(hL:isL as=true)(g:Good X G E as [a]):PI X tg (.Call (.Name n p) [a] [] pos) (tIt X.K G E .enum as):=by
 subst hn;obtain⟨k1,k2,k3⟩:=d90 hg;obtain⟨ha,hs⟩:=g.args hL;rw[Ä1,À] at hs;cases tg with
 |Tuple es ek ep =>
  intro pins s σ H R I q;refine T91 (x.glb _ k1) (x.blt _ (-0)) ha (d50 hs.1 [] X.env) pins s σ H R I ?_
  obtain⟨zA,ρ,z,rr,rel,st,ee,po⟩:=q;refine⟨zA,ρ,z,rr,rel,st,ee,?_⟩;cases rr with
  |er c z1=>exact po
  |ok l z1 =>
   obtain⟨xs,hx,po⟩:=po;intro vs H1 x1 st1 rvs;obtain⟨ds,h1,h2⟩:=M20 hx;have hd:=L90 rvs h1
   match ds,h2 with
   |[.tup a],h2 =>
    cases h2;obtain⟨v,rfl,h3⟩:=hd.one;obtain⟨p1,us,rfl,m1,m2⟩:=h3.B40;exact⟨false,p1,rfl,⟨us,(a20 zA H1).sqT m1⟩,po _ H1 x1 st1 λP B sub tup mv pa sf=>e01 (λ_ x=>a40.sqT x (tup _ _ m1)) (HdA.move mv (show ∀ y∈a,P y from pa _ h1 _ É) m2)⟩
   |[.lst a],h2 =>
    cases h2;have fin:∀ (b:È) (ys:List V),r90 X.K (hz zA H1) b ys->HdA X.K (hz zA H1) a ys->((H b=none/\H1 b=some (.lst ys))∨k11 l=true)->∃ bb p,[V.ref b]=[.ref p]/\(∃ xs,SqB bb X.K H1 p xs)/\R (Ite bb X.K p) H1:=λb ys k1 k2 k5 =>
     ⟨true,b,rfl,⟨ys,(k1.same (a20 zA H1)).sq⟩,po _ H1 x1 st1 λP B sub tup mv pa sf=>e01 (λ_ x=>((sf _ _ k1 k5).same x).sq) (HdA.move mv (show ∀ y∈a,P y from pa _ h1 _ É) k2)⟩
    obtain⟨t,rfl⟩:=X21 h1;cases rvs with
    |cons rv rn =>
     cases rn;cases t with
     |d x =>
      cases h1;obtain⟨b,ys,rfl,k1,k2⟩:=Hd.c61 (show Hd X.K (hz zA H1) (.lst a) _ from rv);exact fin _ _ k1 k2 (.inr rfl)
     |fr x =>
      cases h1;obtain⟨b,ys,rfl,k0,k1,k2,k3⟩:=rv;exact fin _ _ (r90.of (d20 k2 k1)) (k3.same (d80 b _)) (.inl ⟨k0,k2⟩)
     |_=>cases h1
 |_=>cases ht
abbrev EF:XK:=λ_ _ _=>False
def ttC(K:Â)(G:Gs):Ex->TT
 |.nil=>i71|.cons c _=>tT K G EF c|_=>λ_ _ _=>False
theorem k61(h:turns f (x::r) z=some (.ok ys z2)):∃ o z1 l,f x z=some (.ok o z1)/\turns f r z1=some (.ok l z2)/\ys=(match o with | some y=>y::l | none=>l):=by
 rcases M.bind_some (show M.bind (f x) _ z=_ from h) with ⟨o,z1,e1,e2⟩ | ⟨c,z1,e1,e2⟩
 ·rcases M.bind_some e2 with ⟨l,z3,e3,e4⟩ | ⟨c,z3,e3,e4⟩
  ·cases e4;exact⟨o,z1,l,e1,e3,rfl⟩
  ·cases e4
 ·cases e2
theorem X31{zA:Option È}{J:L2.It}{xs ys:List D}{H1:Hp}{z1 z2:Z}{p:Pat}{cond el:Ex}{ρ0:Env}{σ0:L2.St}{Q:VK}(IT:A92 X.K zA J xs H1)(hm:xs.length<=most)(rel0:B60 X.K zA H1 ρ0 σ0)(len:ρ0.length=σ0.length)(st1:e20 zA z1 H1)
  (hc:cond=.nil∨∃ c,cond=.cons c .nil) (e:turns (r80 (ev G.F cond) (ev G.F el) p ρ0) xs z1=some (.ok ys z2))
  (fin:∀ H2 vs l,Ext zA H1 H2->e20 zA z2 H2->HdA X.K (hz zA H2) ys vs->H2 l=none->Q (.ref l) (upd H2 l (.lst vs))):E11 J σ0 H1 (gP X.K p) (ttC X.K G cond) (tI X.K G EF el) Q:=by
 refine⟨λi m vs H=>m=xs.length - i/\i<=xs.length/\vs.length<=i/\∃ yd z rest,Ext zA H1 H/\e20 zA z H/\HdA X.K (hz zA H) yd vs/\turns (r80 (ev G.F cond) (ev G.F el) p ρ0) (xs.drop i) z=some (.ok rest z2)/\ys=yd++rest,
  ⟨xs.length,rfl,Å4 _,Å4 _,[],z1,ys,Ext.refl,st1,.nil,by simpa using e,rfl⟩,?_⟩
 rintro i m vs H ⟨rfl,hi,hv,yd,z,rest,x,st,hd,et,ey⟩;by_cases hlt:i < xs.length
 ·refine .inr ⟨IT.go i H x hlt,È9 hv (à hlt (g10 hm)),
   λws H'=>ws.length<=i + 1/\∃ yd z rest,Ext zA H1 H'/\e20 zA z H'/\HdA X.K (hz zA H') yd ws/\turns (r80 (ev G.F cond) (ev G.F el) p ρ0) (xs.drop (i + 1)) z=some (.ok rest z2)/\ys=yd++rest,
   λws H' q=>⟨xs.length - (i + 1),by omega,rfl,hlt,q.1,q.2⟩,λv H' y=>?_⟩
  obtain⟨sm,hx⟩:=IT.yld i H v H' z xs[i] x st y (by simp[hlt])
  rw[Ä8 hlt] at et;obtain⟨o,z3,l,f1,f2,f3⟩:=k61 et;obtain⟨ρ',b1,f4⟩:=M.a10 (show M.bind (M.of (e90 p xs[i] ρ0)) _ z=_ from f1);have x':Ext zA H1 H':=x.trans (Ext.of sm);have st':=st.same sm;refine t61 b1 (rel0.mono x') len hx λσ' rel' len'=>?_;have yes:∀ {za:Z}{Ha:Hp},Ext zA H' Ha->e20 zA za Ha->M.bind (ev G.F el ρ') (λy=>M.bind (M.of (pl y)) λy=>M.ret (some y)) za=some (.ok o z3)->tI X.K G EF el σ' Ha (λy H4=>(vs++[y]).length<=i + 1/\∃ yd z rest,Ext zA H1 H4/\e20 zA z H4/\HdA X.K (hz zA H4) yd (vs++[y])/\turns (r80 (ev G.F cond) (ev G.F el) p ρ0) (xs.drop (i + 1)) z=some (.ok rest z2)/\ys=yd++rest):=λ{za Ha} xa sta ea=>by
   refine k40 (rel'.mono xa) sta ea (λc z1 h=>by cases h) λm z4 e4=>?_
   obtain⟨d,p1,e5⟩:=M.a10 e4;obtain⟨s1,rfl,q1⟩:=f40 p1;cases e5;refine⟨s1,rfl,λw H4 x4 st4 rv=>⟨by rw[À0];simp;omega,yd++[d],z3,l,(x'.trans xa).trans x4,st4,?_,f2,by rw[ey,f3,Æ1];rfl⟩⟩
   exact(hd.same (a40.trans (j00 sm) (a40.trans xa.same x4.same))).append (.cons (rv.pl.d_ q1) .nil)
  rcases hc with rfl | ⟨c,rfl⟩
  ·have f5:M.bind (ev G.F el ρ') (λy=>M.bind (M.of (pl y)) λy=>M.ret (some y)) z=some (.ok o z3):=f4;have ty:ttC X.K G .nil=i71:=rfl;rw[ty];refine G31 ?_;dsimp only;rw[if_pos rfl];exact yes Ext.refl st' f5
  ·rcases M.bind_some (show M.bind (ev G.F (.cons c .nil) ρ') _ z=_ from f4) with ⟨m,za,e1,e2⟩ | ⟨q,za,e1,e2⟩
   ·rcases M.bind_some (show M.bind (ev G.F c ρ') _ z=_ from e1) with ⟨m',zb,e3,e4⟩ | ⟨q,zb,e3,e4⟩
    ·obtain⟨s,hs,e5⟩:=M.a10 e4;cases e5;have hm':=E30 hs;subst hm';show tT X.K G EF c σ' H' _;have tb:∃ b,s=.d (.bl b):=by
      cases s with
      |d y=>cases y with
       |bl b=>exact⟨b,rfl⟩|_=>cases e2
      |_=>cases e2
     obtain⟨b,rfl⟩:=tb;refine⟨zA,ρ',z,_,rel',st',e3,b,rfl,λHa xa sta=>?_⟩;cases b with
     |true =>
      rw[if_pos rfl];exact yes xa sta e2
     |false =>
      rw[if_neg Ó];cases e2;exact⟨Ù hv (le_succ _),yd,z3,l,x'.trans xa,sta,hd.same (a40.trans (j00 sm) xa),f2,by rw[ey,f3]⟩
    ·cases e4
   ·cases e2
 ·have hi':i=xs.length:=by omega
  subst hi';rw[drop_length] at et;cases et;refine .inl ⟨IT.stop H x,λl hl=>fin H vs l x st (by rw[ey,Ë0];exact hd) hl⟩
end
theorem i70{env:Ç1}{k0:É2}(hk:k0≠.free):∀ {names:List (Str × É2)}{x:Str},names.lookup x=some k0 ->
  (names.map λ(n,k)=>if (k == î&&env.scope.kind == .function&&env.kindOf n == some .cell) then(n,Ä3) else(n,k)).lookup x=some k0
 |[],_,h=>by simp at h
 |(n,k)::r,x,h=>by
  have ih:=@i70 env k0 hk r x;show Ë1 x ((if (k == î&&env.scope.kind == .function&&env.kindOf n == some .cell)=true then(n,Ä3) else(n,k))::_)=_;cases hx:x == n with
  |true =>
   simp only[À2,hx] at h;cases h;have:(k0 == î)=false:=by simpa using hk
   rw[this,Ò5,Ò5,if_neg Ó];simp only[À2,hx]
  |false =>
   simp only[À2,hx] at h;by_cases hq:(k == î&&env.scope.kind == .function&&env.kindOf n == some .cell)=true
   ·rw[if_pos hq];simp only[À2,hx];exact ih h
   ·rw[if_neg hq];simp only[À2,hx];exact ih h
section
variable {lm:Bool}{X:Cx}{G:Gs}{E:XK}{N:List Str}{sc csc:Á3}{on:List Str}{cs:List (Str × Nat)}
structure c52(csc sc:Scope)(N on:List Str)(cs:List (Str × Nat)):Prop where
 kind:csc.kind=.function
 nocell:∀ y∈csc.names,y.2≠.cell
 locs:∀ y∈csc.names,y.2=.local->csc.names.lookup y.1=some .local
 frees:∀ y∈csc.names,y.2=.free->(sc.names.lookup y.1=some .cell∨sc.names.lookup y.1=some .free)
 captd:∀ p∈cs,N[p.2]?=some p.1/\csc.names.lookup p.1=some .free
 own:∀ x∈on,csc.names.lookup x=some .local
 nd:(on++cs.map (·.1)).Nodup
theorem m32(h:T10 csc sc N on cs=true):c52 csc sc N on cs:=by
 unfold T10 at h;simp only[À] at h;obtain⟨⟨⟨⟨⟨⟨h1,h2⟩,h3⟩,h4⟩,h5⟩,h6⟩,h7⟩:=h;rw[Â6] at h2 h3 h4 h5 h6;refine⟨by simpa using h1,λy hy=>by simpa using h2 y hy,λy hy hl=>?_,λy hy hf=>?_,λp hp=>by simpa using h5 p hp,λx hx=>by simpa using h6 x hx,of_decide_eq_true h7⟩
 ·have:=h3 y hy;rw[hl] at this;simpa using this
 ·have:=h4 y hy;rw[hf] at this;simpa using this
theorem u61(x:XI lm X G E N sc)(c:c52 csc sc N on cs):H40 X csc on cs:=⟨c.kind,c.nocell,c.locs,λy hy hf=>x.cel _ (c.frees y hy hf),λp hp=>by rw[x.hN];exact c.captd p hp⟩
theorem M40(x:XI lm X G E N sc)(c:c52 csc sc N on cs)(cl:List (Str × È))(C:È)(s:Æ)(H:Hp)(fp:List È):XI false (c80 X (d70 on cs) csc cl C s H fp) G EF (on++cs.map (·.1)) csc where
 gok:=x.gok
 num:=x.num
 blt:=x.blt
 hN:=rfl
 nd:=c.nd
 vis:=λy hy=>by
  rcases Á0.mp hy with h | h
  ·exact .inl (i70 (-0) (c.own y h))
  ·obtain⟨p,hp,rfl⟩:=Ø.mp h;rcases q30 (env:=X.env) (c.captd p hp).2 with h | h
   ·exact .inr (.inl h)
   ·exact .inr (.inr h)
 glb:=λy hy=>i70 (-0) hy
 cel:=λy hy=>by
  rcases hy with h | h
  ·exact .inl (i70 (-0) h)
  ·exact q30 (env:=X.env) h
 calm:=x.calm
 room:=x.room
 pas:=h62
theorem M50(x:XI lm X G E N sc)(c:c52 csc sc N on cs)(cl:List (Str × È))(C:È)(s:Æ)(H:Hp)(fp:List È):H81 (c80 X (d70 on cs) csc cl C s H fp) (on++cs.map (·.1)) (λy=>on.contains y) where
 hN:=rfl
 nd:=c.nd
 lc:=λy hy=>.inl (i70 (-0) (c.own y (by simpa using hy)))
 fn:=λy hy=>.inr (i70 (-0) (c.own y (by simpa using hy)))
 calm:=x.calm
theorem e11:∀ {capt:List Nat},(e60 N capt).length=capt.length->(e60 N capt).map (·.2)=capt
 |[],_=>rfl
 |i::r,h=>by
  have le:∀ l:List Nat,(e60 N l).length<=l.length:=by
   intro l
   induction l with
   |nil=>exact Ì _
   |cons j q ih =>
    unfold e60;split
    ·rw[Ú,Ú];omega
    ·rw[Ú];omega
  unfold e60 at h ⊢;split at h
  ·rename_i y hy;rw[Ú,Ú] at h;rw[Â0,e11 ∅]
  ·have:=le r;rw[Ú] at h;omega
theorem I11(rel:B60 X.K zA H ρ σ)(h:cs.map (·.2)=capt):B60 X.K zA H (æ on.length none++capt.map λi=>(ρ[i]?).getD none) (s80 on cs σ) /\
  (æ on.length (none:Option S)++capt.map λi=>(ρ[i]?).getD none).length=(s80 on cs σ).length:=by
 subst h;constructor
 ·intro j s e;unfold s80;by_cases hj:j < on.length
  ·rw[Ç6 (by simpa using hj)] at e
   simp[Ð1,hj] at e
  ·rw[À8 (by simpa using hj),Ý3,Ö,Ö] at e
   rw[À8 (by simpa using hj),Ç,Ö]
   cases hp:cs[j - on.length]? with
   |none=>rw[hp] at e;simp at e
   |some p =>
    rw[hp] at e;simp only[map_some,Ñ8] at e;have e2:ρ[p.2]?=some (some s):=by
     cases hr:ρ[p.2]? with
     |none=>rw[hr] at e;cases e
     |some o=>rw[hr] at e;exact congrArg some e
    obtain⟨v,h1,h2⟩:=rel p.2 s e2;exact⟨v,by simp[h1],h2⟩
 ·unfold s80;simp
theorem u71(h:A90 e=true)(env:Ç1)(x:Ä):Ê4 e env x=pure x:=by
 cases e with
 |Set _ _ _=>cases h
 |_=>rfl
def I20(X:Cx)(G:Gs)(E:XK)(x:Ex)(elt tg iter:Ð)(ifs:List Ð)(csc:Á3):Prop:=∃ (own:List Str) (capt:List (Str × Nat)) (wi:TI) (g:TG) (tt:TT) (te:TE),H40 X csc own capt/\PI X tg iter wi /\
 (∀ cl C s H fp,PG (c80 X (d70 own capt) csc cl C s H fp) tg g)/\(∀ cl C s H fp,PTs (c80 X (d70 own capt) csc cl C s H fp) ifs tt)/\(∀ cl C s H fp,PE (c80 X (d70 own capt) csc cl C s H fp) elt te) /\
 (∀ x,Ê4 iter X.env x=pure x)/\∀ σ H Q,tI X.K G E x σ H Q->S21 own capt wi g tt te σ H Q
theorem B02(x:XI lm X G E N sc){p:Pat}{it:It}{src cond el:Ex}{capt:List Nat}{elt tg iter:Ð}{ifs:List Ð}(c:c52 csc sc N on cs)(hcap:cs.map (·.2)=capt)(hp:i10 (on++cs.map (·.1)) (λy=>on.contains y) p tg=true)
  (hi:PI X tg iter (tIt X.K G E it src)) (hns:A90 iter=true) (hc:(cond=.nil/\ifs=[])∨∃ q f,cond=.cons q .nil/\ifs=[f]/\∀ cl C s H fp,PT (c80 X (d70 on cs) csc cl C s H fp) f (tT X.K G EF q))
  (he:∀ cl C s H fp,PE (c80 X (d70 on cs) csc cl C s H fp) elt (tI X.K G EF el)):I20 X G E (.comp on.length capt p it src cond el) elt tg iter ifs csc:=by
 have ht:∀ cl C s H fp,PTs (c80 X (d70 on cs) csc cl C s H fp) ifs (ttC X.K G cond):=by
  rcases hc with ⟨rfl,rfl⟩ | ⟨q,f,rfl,rfl,h⟩
  ·exact λcl C s H fp=>p31
  ·exact λcl C s H fp=>S01 (h cl C s H fp)
 refine⟨on,cs,tIt X.K G E it src,gP X.K p,ttC X.K G cond,tI X.K G EF el,u61 x c,hi,λcl C s H fp=>k51 (M50 x c cl C s H fp) hp,ht,he,u71 hns X.env,λσ H Q q=>?_⟩;obtain⟨zA,ρ,z,rr,rel,st,e,po⟩:=q;have e0:M.bind (ev G.F src ρ) (λl=>M.bind (M.of ((plA l).bind (itD it))) λxs=>if xs.length<=most then M.bind (M.calm (turns (r80 (ev G.F cond) (ev G.F el) p (æ on.length none++capt.map λi=>(ρ[i]?).getD none)) xs)) λys=>M.ret [.fr ys] else M.no) z=some rr:=e;rcases M.bind_some e0 with ⟨m,z1,e1,e2⟩ | ⟨k,z1,e1,e2⟩
 ·obtain⟨xs,hx,e3⟩:=M.a10 e2;refine⟨zA,ρ,z,_,rel,st,e1,xs,hx,λJ H1 x1 st1 IT'=>?_⟩;have IT:=IT'.ok;split at e3
  ·rename_i hm;rcases M.bind_some e3 with ⟨ys,z2,e4,e5⟩ | ⟨k,z2,e4,e5⟩
   ·cases e5;have e6:turns (r80 (ev G.F cond) (ev G.F el) p (æ on.length none++capt.map λi=>(ρ[i]?).getD none)) xs z1=some (.ok ys z2):=by
     unfold M.calm at e4;split at e4
     ·rename_i h;cases e4;exact h
     ·cases e4
    obtain⟨r1,r2⟩:=I11 (on:=on) (rel.mono x1) hcap;refine X31 IT hm r1 r2 st1 (by rcases hc with ⟨h,_⟩ | ⟨q,_,h,_⟩;exact .inl h;exact .inr ⟨q,h⟩) e6 λH2 vs l x2 st2 hd hl=>?_
    exact f50 po (x1.trans x2) st2 _ _ (a40.new _ hl) (s30 st2 hd hl)
   ·unfold M.calm at e4;split at e4 <;> cases e4
  ·cases e3
 ·exact⟨zA,ρ,z,_,rel,st,e1,(g20 po) k z1 e2⟩
theorem I20.good(hc:X.calm=true)(h:I20 X G E x elt tg iter ifs csc):a90 X G E x (.ListComp elt [⟨tg,iter,ifs,0⟩] csc pos):=by
 obtain⟨own,capt,wi,g,tt,te,h1,h2,h3,h4,h5,h6,h7⟩:=h;exact b20 (PE.imp (p41 hc h1 h2 h3 h4 h5 h6) h7) rfl
theorem b70(h:(!isL x)=true):isL x=false:=by simpa using h
theorem u81(hL:isL x=true)(g:Good X G E x [e]):∃ a,x=.cons a .nil/\a90 X G E a e:=by
 cases x with
 |nil=>cases (show [e]=[] from g)
 |cons a r =>
  obtain⟨e',es,h,ns,ga,lr,gr⟩:=g;cases h;cases r with
  |nil=>exact⟨a,rfl,ga⟩|cons b q=>obtain⟨e,es,h,_⟩:=gr;cases h
  |_=>cases lr
 |_=>cases hL
theorem T40{lm:Bool}{G:Gs}{own:Nat}{capt:List Nat}{p:Pat}{it:It}{src cond el:Ex}(ihs:(∀ {X:Cx}{E:XK}{N:List Str}{sc:Á3},XI lm X G E N sc->∀ {es:List Ð},mt lm G.fns G.nums src sc N es=true->Good X G E src es))(ihc:(∀ {X:Cx}{E:XK}{N:List Str}{sc:Á3},XI false X G E N sc->∀ {es:List Ð},mt false G.fns G.nums cond sc N es=true->Good X G E cond es))(ihe:(∀ {X:Cx}{E:XK}{N:List Str}{sc:Á3},XI false X G E N sc->∀ {es:List Ð},mt false G.fns G.nums el sc N es=true->Good X G E el es))
  {X:Cx}{E:XK}{N:List Str}{sc:Á3} (x:XI lm X G E N sc) {elt tg iter:Ð}{ifs:List Ð}{csc:Á3} (h:(d60 tg).length == own&&(e60 N capt).length == capt.length&&T10 csc sc N (d60 tg) (e60 N capt)&&i10 (d60 tg++(e60 N capt).map (·.1)) (λx=>(d60 tg).contains x) p tg&&isL src&&!isL el&&isL cond&&ifs.length<=1&&noStar elt&&A90 iter&&ifs.all (λc=>!ifB c) &&
    (match it with
    |.seq=>mt lm G.fns G.nums src sc N [iter]|.rng1=>opt (c32 iter) λr=>r.1.1 == ("range":Str)&&glob sc r.1.1&&mt lm G.fns G.nums src sc N [r.1.2.2.1]|.rng2=>opt (c42 iter) λr=>r.1.1 == ("range":Str)&&glob sc r.1.1&&mt lm G.fns G.nums src sc N [r.1.2.2.1,r.1.2.2.2.1]|.zip=>opt (c42 iter) λr=>r.1.1 == ("zip":Str)&&glob sc r.1.1&&m00 tg&&mt lm G.fns G.nums src sc N [r.1.2.2.1,r.1.2.2.2.1]
    |.enum=>opt (c32 iter) λr=>r.1.1 == ("enumerate":Str)&&glob sc r.1.1&&m00 tg&&mt lm G.fns G.nums src sc N [r.1.2.2.1])&&mt false G.fns G.nums cond csc (d60 tg++(e60 N capt).map (·.1)) ifs&&mt false G.fns G.nums el csc (d60 tg++(e60 N capt).map (·.1)) [elt]):I20 X G E (.comp own capt p it src cond el) elt tg iter ifs csc:=by
 simp only[À,beq_iff_eq,decide_eq_true_eq] at h;obtain⟨⟨⟨⟨⟨⟨⟨⟨⟨⟨⟨⟨⟨h1,h2⟩,h3⟩,h4⟩,h5⟩,h6⟩,h7⟩,h8⟩,h9⟩,h10⟩,h11⟩,h12⟩,h13⟩,h14⟩:=h;subst h1;have c:=m32 h3;have hi:PI X tg iter (tIt X.K G E it src):=by
  cases it with
  |seq =>
   obtain⟨a,rfl,ga⟩:=u81 h5 (ihs x h12);exact O71 ga
  |rng1 =>
   obtain⟨⟨⟨n,_,a,_⟩,rfl⟩,-,h12⟩:=a50 h12;simp only[À,beq_iff_eq] at h12;exact u11 x h12.1.1 h12.1.2 h5 (ihs x h12.2)
  |rng2 =>
   obtain⟨⟨⟨n,_,a,b,_⟩,rfl⟩,-,h12⟩:=a50 h12;simp only[À,beq_iff_eq] at h12;exact u21 x h12.1.1 h12.1.2 h5 (ihs x h12.2)
  |zip =>
   obtain⟨⟨⟨n,_,a,b,_⟩,rfl⟩,-,h12⟩:=a50 h12;simp only[À,beq_iff_eq] at h12;exact u51 x h12.1.2 h12.1.1.1 h12.1.1.2 h5 (ihs x h12.2)
  |enum =>
   obtain⟨⟨⟨n,_,a,_⟩,rfl⟩,-,h12⟩:=a50 h12;simp only[À,beq_iff_eq] at h12;exact M30 x h12.1.2 h12.1.1.1 h12.1.1.2 h5 (ihs x h12.2)
 have hc:(cond=.nil/\ifs=[])∨∃ q f,cond=.cons q .nil/\ifs=[f]/\∀ cl C s H fp,PT (c80 X (d70 (d60 tg) (e60 N capt)) csc cl C s H fp) f (tT X.K G EF q):=by
  match ifs,h8,h11,h13 with
  |[],_,_,h13 =>
   cases cond with
   |nil=>exact .inl ⟨rfl,rfl⟩|cons a r=>cases h13
   |_=>cases h7
  |[f],_,h11,h13 =>
   cases cond with
   |nil=>cases h13
   |cons a r =>
    have h13':(noStar f&&!isL a&&isL r&&mt false G.fns G.nums a csc (d60 tg++(e60 N capt).map (·.1)) [f]&&mt false G.fns G.nums r csc (d60 tg++(e60 N capt).map (·.1)) [])=true:=h13;simp only[À] at h13';have rn:r=.nil:=by
     cases r with
     |nil=>rfl|cons b q=>cases h13'.2
     |_=>cases h13'.1.1.2
    subst rn;simp only[Ä1,List.all_nil,Ü2] at h11;refine .inr ⟨a,f,rfl,rfl,λcl C s H fp=>?_⟩;obtain⟨e',es,he,ns,ga,lr,gr⟩:=ihc (M40 x c cl C s H fp) h13;cases he;exact ga.pt (W81 h11)
   |_=>cases h7
 refine B02 x c (e11 h2) h4 hi h10 hc λcl C s H fp=>?_;exact(a70 (b70 h6) (ihe (M40 x c cl C s H fp) h14)).pe
theorem m42:∀ (t:Ex) {lm:Bool}{G:Gs}{X:Cx}{E:XK}{N:List Str}{sc:Á3},XI lm X G E N sc->∀ {es:List Ð},mt lm G.fns G.nums t sc N es=true->Good X G E t es:=by
 intro t
 induction t with
 |nil =>
  intro lm G X E N sc x es h;exact Ð0.mp h
 |cons a r iha ihr =>
  intro lm G X E N sc x es h;cases es with
  |nil=>cases h
  |cons e es =>
   have h:(noStar e&&!isL a&&isL r&&mt lm G.fns G.nums a sc N [e]&&mt lm G.fns G.nums r sc N es)=true:=h;simp only[À] at h;obtain⟨⟨⟨⟨h1,h2⟩,h3⟩,h4⟩,h5⟩:=h;exact⟨e,es,rfl,h1,a70 (b70 h2) (iha x h4),h3,ihr x h5⟩
 |var i =>
  intro lm G X E N sc x es h;obtain⟨⟨q,rfl⟩,-,h⟩:=a50 h;simp only[À,beq_iff_eq] at h;exact c20 rfl (z32 x h.1 h.2)
 |con d =>
  intro lm G X E N sc x es h;rcases (Å1 _ _).mp h with h | h
  ·obtain⟨⟨q,rfl⟩,-,h⟩:=a50 h;exact c20 rfl (z42 h)
  ·obtain⟨⟨p,rfl⟩,-,h⟩:=a50 h;cases d with
   |dct=>exact c20 rfl z52|_=>cases h
 |gint g i =>
  intro lm G X E N sc x es h;obtain⟨⟨⟨n,p⟩,rfl⟩,-,h⟩:=a50 h;simp only[À,beq_iff_eq,Ê9] at h;obtain⟨⟨rfl,h2⟩,h3⟩:=h;exact c20 rfl (k52 x h2 h3)
 |tup as ih =>
  intro lm G X E N sc x es h;obtain⟨⟨q,rfl⟩,-,h⟩:=a50 h;simp only[À] at h;exact c20 rfl (z62 h.1 (ih x h.2))
 |lst as ih =>
  intro lm G X E N sc x es h;obtain⟨⟨q,rfl⟩,-,h⟩:=a50 h;simp only[À] at h;exact c20 rfl (z72 h.1 (ih x h.2))
 |bin o a b iha ihb =>
  intro lm G X E N sc x es h;obtain⟨⟨⟨l,op,r,p⟩,rfl⟩,-,h⟩:=a50 h;simp only[À,beq_iff_eq] at h;obtain⟨⟨⟨⟨rfl,h2⟩,h3⟩,h4⟩,h5⟩:=h;exact c20 rfl (z82 (a70 (b70 h2) (iha x h4)) (a70 (b70 h3) (ihb x h5)))
 |cmp o a b iha ihb =>
  intro lm G X E N sc x es h;obtain⟨⟨⟨l,op,r,p⟩,rfl⟩,-,h⟩:=a50 h;simp only[À,beq_iff_eq] at h;obtain⟨⟨⟨⟨⟨rfl,h1⟩,h2⟩,h3⟩,h4⟩,h5⟩:=h;exact c20 rfl (z92 x h1 (a70 (b70 h2) (iha x h4)) (a70 (b70 h3) (ihb x h5)))
 |neg a ih =>
  intro lm G X E N sc x es h;obtain⟨⟨q,rfl⟩,-,h⟩:=a50 h;simp only[À] at h;exact c20 rfl (A02 (a70 (b70 h.1) (ih x h.2)))
 |not a ih =>
  intro lm G X E N sc x es h;obtain⟨⟨q,rfl⟩,-,h⟩:=a50 h;simp only[À] at h;obtain⟨⟨h1,h2⟩,h3⟩:=h;exact c20 rfl (A12 (a70 (b70 h1) (ih x h3)) (W81 h2))
 |and a b iha ihb =>
  intro lm G X E N sc x es h;obtain⟨⟨⟨l,r,vs,p⟩,rfl⟩,-,h⟩:=a50 h;simp only[À] at h;obtain⟨⟨⟨⟨h1,h2⟩,h3⟩,h4⟩,h5⟩:=h;refine c20 rfl (A22 (a70 (b70 h1) (iha x h4)) (W81 h3) ?_);cases vs with
  |nil =>
   rw[if_pos (show([]:List Ð).isEmpty=true from rfl),À] at h5;exact k62 (a70 (b70 h2) (ihb x h5.2)) (W81 h5.1)
  |cons v vs =>
   rw[if_neg (by exact Ó)] at h5
   exact a70 (b70 h2) (ihb x h5)
 |or a b iha ihb =>
  intro lm G X E N sc x es h;obtain⟨⟨⟨l,r,vs,p⟩,rfl⟩,-,h⟩:=a50 h;simp only[À] at h;obtain⟨⟨⟨⟨h1,h2⟩,h3⟩,h4⟩,h5⟩:=h;refine c20 rfl (N42 (a70 (b70 h1) (iha x h4)) (W81 h3) ?_);cases vs with
  |nil =>
   rw[if_pos (show([]:List Ð).isEmpty=true from rfl),À] at h5;exact k62 (a70 (b70 h2) (ihb x h5.2)) (W81 h5.1)
  |cons v vs =>
   rw[if_neg (by exact Ó)] at h5
   exact a70 (b70 h2) (ihb x h5)
 |orT a b iha ihb =>
  intro lm G X E N sc x es h;obtain⟨⟨⟨l,r,vs,p⟩,rfl⟩,-,h⟩:=a50 h;simp only[À] at h;obtain⟨⟨⟨⟨h1,h2⟩,h3⟩,h4⟩,h5⟩:=h;cases vs with
  |nil=>exact c20 rfl (A32 (a70 (b70 h1) (iha x h4)) (a70 (b70 h2) (ihb x h5)))|cons v vs=>cases h3
 |ite c a b ihc iha ihb =>
  intro lm G X E N sc x es h;obtain⟨⟨q,rfl⟩,-,h⟩:=a50 h;simp only[À] at h;obtain⟨⟨⟨⟨⟨⟨h1,h2⟩,h3⟩,h4⟩,h5⟩,h6⟩,h7⟩:=h;exact c20 rfl (A42 (a70 (b70 h1) (ihc x h5)) (W81 h4) (a70 (b70 h2) (iha x h6)) (a70 (b70 h3) (ihb x h7)))
 |ch o o' a b c iha ihb ihc =>
  intro lm G X E N sc x es h;obtain⟨⟨⟨l,op,op',r,s,p⟩,rfl⟩,-,h⟩:=a50 h;simp only[À,beq_iff_eq] at h;obtain⟨⟨⟨⟨⟨⟨⟨⟨rfl,rfl⟩,h1⟩,h2⟩,h3⟩,h4⟩,h5⟩,h6⟩,h7⟩:=h;exact c20 rfl (N52 x h1 (a70 (b70 h2) (iha x h5)) (a70 (b70 h3) (ihb x h6)) (a70 (b70 h4) (ihc x h7)))
 |bf f as ih =>
  intro lm G X E N sc x es h;obtain⟨⟨q,rfl⟩,-,h⟩:=a50 h;simp only[À,beq_iff_eq] at h;obtain⟨⟨⟨⟨h1,h2⟩,h3⟩,h4⟩,h5⟩:=h;exact c20 rfl (N62 x h1 h2 h3 h4 (ih x h5))
 |isi t a ih =>
  intro lm G X E N sc x es h;obtain⟨⟨⟨n,q,e,ty,p⟩,rfl⟩,-,h⟩:=a50 h;simp only[À,beq_iff_eq] at h;obtain⟨⟨⟨⟨⟨h1,h2⟩,h3⟩,h4⟩,h5⟩,h6⟩:=h;have g:=a70 (b70 h4) (ih x h5);refine c20 rfl ?_;have one:∀ t:Ty,t≠.seq->(opt (shN ty) λq=>q.1.1 == Á5 (tyN t)&&glob sc (Á5 (tyN t)))=true->a90 X G E (.isi t a) (.Call (.Name n q) [e,ty] [] p):=λt hs h6=>by
   obtain⟨⟨⟨a,_⟩,rfl⟩,-,h6⟩:=a50 h6;simp only[À,beq_iff_eq] at h6;obtain⟨rfl,k1⟩:=h6;exact l52 x hs k1 h1 h2 h3 g
  cases t with
  |seq =>
   obtain⟨⟨⟨a,_,b,_,_,_⟩,rfl⟩,-,h6⟩:=a50 h6;simp only[À,beq_iff_eq] at h6;obtain⟨⟨⟨rfl,rfl⟩,k1⟩,k2⟩:=h6;exact l62 x k1 k2 h1 h2 h3 g
  |_=>exact one _ (λh=>by cases h) h6
 |idx a i iha ihi =>
  intro lm G X E N sc x es h;obtain⟨⟨q,rfl⟩,-,h⟩:=a50 h;simp only[À] at h;obtain⟨⟨⟨⟨h1,h2⟩,h3⟩,h4⟩,h5⟩:=h;exact c20 rfl (A62 h1 (a70 (b70 h2) (iha x h4)) (a70 (b70 h3) (ihi x h5)))
 |sl a lo hi iha ihl ihh =>
  intro lm G X E N sc x es h;obtain⟨⟨q,rfl⟩,-,h⟩:=a50 h;simp only[À] at h;obtain⟨⟨⟨⟨⟨h1,h2⟩,h3⟩,h4⟩,h5⟩,h6⟩:=h;exact c20 rfl (N72 (a70 (b70 h1) (iha x h4)) h2 h3 (ihl x h5) (ihh x h6))
 |call f as ih =>
  intro lm G X E N sc x es h;obtain⟨⟨⟨n,q,e,l,p⟩,rfl⟩,-,h⟩:=a50 h;simp only[À] at h;obtain⟨⟨⟨h1,h2⟩,h3⟩,h4⟩:=h;obtain⟨pr,hf,h1'⟩:=a50 h1;simp only[À,beq_iff_eq] at h1';obtain⟨rfl,h7⟩:=h1';exact c20 rfl (s_call x hf h7 h2 h3 (ih x h4))
 |comp own capt p it src cond el ihs ihc ihe =>
  intro lm G X E N sc x es h;obtain⟨⟨q,rfl⟩,-,h⟩:=a50 h;exact c20 rfl ((T40 ihs ihc ihe x h).good x.calm)
 |lrng b as ih =>
  intro lm G X E N sc x es h;obtain⟨⟨⟨n,p,m,q,a,r,t⟩,rfl⟩,-,h⟩:=a50 h;simp only[À,beq_iff_eq] at h;obtain⟨⟨⟨⟨⟨⟨h1,h2⟩,h3⟩,h4⟩,h5⟩,h7⟩,h6⟩:=h;subst h1;subst h2;cases a with
  |nil=>simp at h7|cons a l=>exact c20 rfl (l92 x h3 h4 h5 (ih x h6))
 |zget i k =>
  intro lm G X E N sc x es h;obtain⟨⟨⟨n,p,j,c,q,r⟩,rfl⟩,-,h⟩:=a50 h;simp only[À,beq_iff_eq] at h;obtain⟨⟨h1,h2⟩,h3⟩:=h;have h3:j=(k:Int):=h3;subst h3;exact c20 rfl (l72 x h1 h2)
theorem sound(G:Gs)(t:Ex)(x:XI lm X G E N sc)(h:mt lm G.fns G.nums t sc N es=true):Good X G E t es:=m42 t x h
end
open Classical in
def hw(ow:Nat->Option È)(H:Hp):Hp:=λb=>if ∃ i,ow i=some b then none else H b
section
variable {K:Â}{ow:Nat->Option È}{H H':Hp}
theorem l10:a40 (hw ow H) H:=λb o e=>by
 unfold hw at e;split at e
 ·cases e
 ·exact e
theorem j30(h:H b=some o)(n:∀ i,ow i≠some b):hw ow H b=some o:=by
 unfold hw;rw[if_neg (λ⟨i,e⟩=>n i e)];exact h
theorem E60(h:hw ow H b=some o):H b=some o/\∀ i,ow i≠some b:=by
 refine⟨l10 b o h,λi e=>?_⟩;unfold hw at h;rw[if_pos ⟨i,e⟩] at h;cases h
theorem e00(e:a40 H H'):a40 (hw ow H) (hw ow H'):=λb o h=>by
 obtain⟨h1,h2⟩:=E60 h;exact j30 (e b o h1) h2
theorem y40:hw (λ_=>none) H=H:=by
 funext b
 unfold hw;rw[if_neg (λ⟨i,e⟩=>by cases e)]
theorem u91(h:SqT K H a xs)(hl:∀ i b,ow i=some b->∃ ys,H b=some (.lst ys)):SqT K (hw ow H) a xs:=by
 rcases h with (h | ⟨o,h⟩) | h
 ·refine .inl (.inl (j30 h λi e=>?_));obtain⟨ys,q⟩:=hl i a e;rw[h] at q;cases q
 ·refine .inl (.inr ⟨o,j30 h λi e=>?_⟩);obtain⟨ys,q⟩:=hl i a e;rw[h] at q;cases q
 ·exact .inr h
mutual
theorem M60(hl:∀ i b,ow i=some b->∃ ys,H b=some (.lst ys)):∀ {d:D}{v:V},bare d=true->Hd K H d v->Hd K (hw ow H) d v
 |.non,_,_,h=>by rw[h.x52];exact Hd.non|.bl _,_,_,h=>by rw[h.bl_];exact Hd.bl|.int _,_,_,h=>by rw[h.h60];exact Hd.int|.str _,_,_,h=>by rw[h.x62];exact Hd.str
 |.tup l,_,b,h=>by
  obtain⟨a,xs,rfl,h1,h2⟩:=h.B40;exact Hd.tup (u91 h1 hl) (B70 hl (by simpa [bare] using b) h2)
 |.lst _,_,b,_=>by cases b
 |.dct,_,b,_=>by cases b
theorem B70(hl:∀ i b,ow i=some b->∃ ys,H b=some (.lst ys)):∀ {ds:List D}{vs:List V},k20 ds=true->HdA K H ds vs->HdA K (hw ow H) ds vs
 |[],_,_,h=>by rw[h.f30];exact .nil
 |d::ds,_,b,h=>by
  obtain⟨x,r,rfl,h1,h2⟩:=h.c00;simp only[k20,À] at b;exact .cons (M60 hl b.1 h1) (B70 hl b.2 h2)
end
end
def RvW(K:Â)(zA:Option È)(ow:Nat->Option È)(H:Hp)(i:Nat):S->V->Prop
 |.d x,v=>ow i=none/\Hd K (hw ow (hz zA H)) x v|.fr xs,v=>∃ a ys,ow i=some a/\v=.ref a/\H a=some (.lst ys)/\HdA K (hw ow (hz zA H)) xs ys|.z,v=>ow i=none/\∃ a,zA=some a/\v=.ref a
structure RW(K:PySem.W.Frag)(H0:Hp)(zE zA:Option Addr)(ow:Nat->Option Addr)(H:Hp)(ρ:Env)(σ:L2.St):Prop where
 len:ρ.length=σ.length
 inj:∀ i j a,ow i=some a->ow j=some a->i=j
 zne:∀ i a,ow i=some a->zA≠some a
 own:∀ i a,ow i=some a->∃ xs,ρ[i]?=some (some (.fr xs))
 wor:∀ i s,ρ[i]?=some (some s)->∃ v,σ[i]?=some (some v)/\RvW K zA ow H i s v
 ext:Ext zE H0 H
 zok:zA=zE∨(zE=none/\∀ a,zA=some a->H0 a=none)
 new:∀ i a,ow i=some a->H0 a=none
section
variable {K:Â}{H0 H H':Hp}{zE zA:Option È}{ow:Nat->Option È}{ρ:Env}{σ:L2.St}
theorem RW.lst(r:RW K H0 zE zA ow H ρ σ):∀ i a,ow i=some a->∃ ys,H a=some (.lst ys):=λi a e=>by
 obtain⟨xs,h⟩:=r.own i a e;obtain⟨v,h1,a',ys,h2,h3,h4,h5⟩:=r.wor i _ h;rw[e] at h2;cases h2;exact⟨ys,h4⟩
theorem RW.X41(r:RW K H0 zE zA ow H ρ σ):∀ i a,ow i=some a->∃ ys,hz zA H a=some (.lst ys):=λi a e=>by
 obtain⟨ys,h⟩:=r.lst i a e;exact⟨ys,d20 h (r.zne i a e)⟩
theorem RvW.pl{i:Nat}{s:S}{v:V}(h:RvW K zA ow H i s v)(hz':∀ a,ow i=some a->zA≠some a):RvP K zA H s v:=by
 cases s with
 |d x=>exact h.2.same l10|z=>exact h.2
 |fr xs =>
  obtain⟨a,ys,h1,rfl,h3,h4⟩:=h;exact Hd.lst (d20 h3 (hz' a h1)) (h4.same l10)
theorem RW.M70(r:RW K H0 zE zA ow H ρ σ):B60 K zA H ρ σ:=λi s e=>by
 obtain⟨v,h1,h2⟩:=r.wor i s e;exact⟨v,h1,h2.pl λa q=>r.zne i a q⟩
theorem RvW.mono{i:Nat}{s:S}{v:V}(h:RvW K zA ow H i s v)(hz':∀ a,ow i=some a->zA≠some a)(x:Ext zA H H'):RvW K zA ow H' i s v:=by
 cases s with
 |d y=>exact⟨h.1,h.2.same (e00 x)⟩|z=>exact h
 |fr xs =>
  obtain⟨a,ys,h1,rfl,h3,h4⟩:=h;exact⟨a,ys,h1,rfl,x.at h3 (hz' a h1),h4.same (e00 x)⟩
theorem O81(zA:Option È)(H:Hp):a40 (hz zA H) (hz none H):=λ_ _ h=>d20 (o70 h).1 (λq=>nomatch q) (o00 h)
theorem e21(e:Ext zE H0 H)(zok:zA=zE∨(zE=none/\∀ a,zA=some a->H0 a=none))(x:Ext zA H H'):Ext zE H0 H':=by
 rcases zok with rfl | ⟨rfl,hn⟩
 ·exact e.trans x
 ·refine⟨λb o h=>?_,λb ps h=>let ⟨qs,q⟩:=e.tbl b ps h;x.tbl b qs q⟩;have h1:=e.same b o h;refine d20 (x.at (o70 h1).1 (λq=>?_) (o00 h1)) (λq=>nomatch q) (o00 h1);have h0:=(o70 h).1;rw[hn b q] at h0;cases h0
theorem RW.mono(r:RW K H0 zE zA ow H ρ σ)(x:Ext zA H H'):RW K H0 zE zA ow H' ρ σ :=
 ⟨r.len,r.inj,r.zne,r.own,λi s e=>let ⟨v,h1,h2⟩:=r.wor i s e;⟨v,h1,h2.mono (λa q=>r.zne i a q) x⟩,e21 r.ext r.zok x,r.zok,r.new⟩
theorem RW.young(r:RW K H0 zE zA ow H ρ σ)(h:H a=none)(n:zA≠some a):H0 a=none/\zE≠some a:=by
 have hE:zE≠some a:=λq=>by
  rcases r.zok with rfl | ⟨rfl,_⟩
  ·exact n q
  ·cases q
 exact⟨r.ext.free h hE,hE⟩
theorem RW.out(r:RW K H0 zE zA ow H ρ σ){s:S}{v:V}(hs:s≠.z)(x:Ext zA H H')(h:RvS K zA H H' s v):RvS K zE H0 H' s v:=by
 have sm:a40 (hz zA H') (hz zE H'):=by
  rcases r.zok with rfl | ⟨rfl,_⟩
  ·exact a40.refl _
  ·exact O81 _ _
 cases s with
 |d y=>exact Hd.same sm h|z=>exact absurd rfl hs
 |fr xs =>
  obtain⟨a,ys,rfl,h1,h2,h3,h4⟩:=h;obtain⟨k1,k2⟩:=r.young h1 h2;exact⟨a,ys,rfl,k1,k2,h3,h4.same (D60 λb o _ q=>sm b o q)⟩
theorem RW.N82(r:RW K H0 zE zA ow H ρ σ){i:Nat}{s:S}(hs:s≠.z)(e:ρ[i]?=some (some s)):∃ v,σ[i]?=some (some v)/\RvS K zE H0 H s v:=by
 obtain⟨v,h1,h2⟩:=r.wor i s e;have sm:a40 (hz zA H) (hz zE H):=by
  rcases r.zok with rfl | ⟨rfl,_⟩
  ·exact a40.refl _
  ·exact O81 _ _
 refine⟨v,h1,?_⟩;cases s with
 |d y=>exact Hd.same (a40.trans l10 sm) h2.2|z=>exact absurd rfl hs
 |fr xs =>
  obtain⟨a,ys,k1,rfl,k3,k4⟩:=h2;have n:=r.zne i a k1;have hE:zE≠some a:=λq=>by
   rcases r.zok with rfl | ⟨rfl,_⟩
   ·exact n q
   ·cases q
  refine⟨a,ys,rfl,r.new i a k1,hE,k3,k4.same λb o q=>?_⟩;obtain⟨q1,q2⟩:=E60 q;exact m80 (sm b o q1) λz=>q2 i (by rw[z];exact k1)
theorem RW.X80(r:RW K H0 zE zA ow H ρ σ):RW K H0 zE zA (λ_=>none) H (X80 ρ) σ:=by
 refine⟨by unfold Q.X80;rw[Ç];exact r.len,λi j a h=>(by cases h),λi a h=>(by cases h),λi a h=>(by cases h),λi s e=>?_,r.ext,r.zok,λi a h=>(by cases h)⟩
 unfold Q.X80 at e;rw[Ö] at e;obtain⟨o,e1,e2⟩:=Ë.mp e;cases o with
 |none=>cases e2
 |some s0 =>
  cases e2;obtain⟨v,h1,h2⟩:=r.M70 i s0 e1;refine⟨v,h1,?_⟩;cases s0 with
  |d y=>exact⟨rfl,by rw[y40];exact h2⟩|fr xs=>exact⟨rfl,by rw[y40];exact h2⟩|z=>exact⟨rfl,h2⟩
def ow0(ow:Nat->Option È)(i:Nat):Nat->Option Addr:=λj=>if j=i then none else ow j
def ow1(ow:Nat->Option È)(i:Nat)(a:È):Nat->Option Addr:=λj=>if j=i then some a else ow j
theorem RvW.move{ow':Nat->Option È}{j:Nat}{s:S}{v:V}(h:RvW K zA ow H j s v)(e:ow' j=ow j)(sm:a40 (hw ow (hz zA H)) (hw ow' (hz zA H')))(hk:∀ a,ow j=some a->H' a=H a):RvW K zA ow' H' j s v:=by
 cases s with
 |d y=>exact⟨by rw[e];exact h.1,h.2.same sm⟩|z=>exact⟨by rw[e];exact h.1,h.2⟩
 |fr xs =>
  obtain⟨a,ys,h1,rfl,h3,h4⟩:=h;exact⟨a,ys,by rw[e];exact h1,rfl,by rw[hk a h1];exact h3,h4.same sm⟩
theorem getElem?_set'{α:Type}{l:List α}{i j:Nat}{x y:α}(h:(l.set i x)[j]?=some y):(j=i/\y=x/\i < l.length)∨(j≠i/\l[j]?=some y):=by
 by_cases hj:j=i
 ·subst hj;have hlt:j < l.length:=by
   have:=(ä.mp h).1;simpa using this
  rw[Ý hlt] at h;cases h;exact .inl ⟨rfl,rfl,hlt⟩
 ·rw[Õ (À6 hj)] at h;exact .inr ⟨hj,h⟩
theorem RW.N92(r:RW K H0 zE zA ow H ρ σ){i:Nat}(h:Hd K (hw ow (hz zA H)) x v):RW K H0 zE zA (ow0 ow i) H (ρ.set i (some (.d x))) (σ.set i (some v)):=by
 have sub:∀ j a,ow0 ow i j=some a->j≠i/\ow j=some a:=λj a e=>by
  unfold ow0 at e;split at e
  ·cases e
  ·rename_i n;exact⟨n,e⟩
 have sm:a40 (hw ow (hz zA H)) (hw (ow0 ow i) (hz zA H)):=λb o e=>by
  obtain⟨e1,e2⟩:=E60 e;exact j30 e1 λj q=>e2 j (sub j b q).2
 refine⟨by rw[û,û];exact r.len,λj k a h1 h2=>r.inj j k a (sub j a h1).2 (sub k a h2).2,λj a h1=>r.zne j a (sub j a h1).2,λj a h1=>?_,λj s e=>?_,r.ext,r.zok,λj a h1=>r.new j a (sub j a h1).2⟩
 ·obtain⟨n,h2⟩:=sub j a h1;obtain⟨xs,h3⟩:=r.own j a h2;exact⟨xs,by rw[Õ (À6 n)];exact h3⟩
 ·rcases getElem?_set' e with ⟨rfl,e1,hlt⟩ | ⟨n,e1⟩
  ·cases e1;exact⟨v,Ý (by rw[← r.len];exact hlt),by unfold ow0;exact if_pos rfl,h.same sm⟩
  ·obtain⟨w,h1,h2⟩:=r.wor j s e1;exact⟨w,by rw[Õ (À6 n)];exact h1,h2.move (by unfold ow0;exact if_neg n) sm λ_ _=>rfl⟩
theorem RW.O02(r:RW K H0 zE zA ow H ρ σ){i:Nat}{t:S}{v:V}(h:RvW K zA (ow0 ow i) H i t v):RW K H0 zE zA (ow0 ow i) H (ρ.set i (some t)) (σ.set i (some v)):=by
 have sub:∀ j a,ow0 ow i j=some a->j≠i/\ow j=some a:=λj a e=>by
  unfold ow0 at e;split at e
  ·cases e
  ·rename_i n;exact⟨n,e⟩
 have sm:a40 (hw ow (hz zA H)) (hw (ow0 ow i) (hz zA H)):=λb o e=>by
  obtain⟨e1,e2⟩:=E60 e;exact j30 e1 λj q=>e2 j (sub j b q).2
 refine⟨by rw[û,û];exact r.len,λj k a h1 h2=>r.inj j k a (sub j a h1).2 (sub k a h2).2,λj a h1=>r.zne j a (sub j a h1).2,λj a h1=>?_,λj s e=>?_,r.ext,r.zok,λj a h1=>r.new j a (sub j a h1).2⟩
 ·obtain⟨n,h2⟩:=sub j a h1;obtain⟨xs,h3⟩:=r.own j a h2;exact⟨xs,by rw[Õ (À6 n)];exact h3⟩
 ·rcases getElem?_set' e with ⟨rfl,e1,hlt⟩ | ⟨n,e1⟩
  ·cases e1;exact⟨v,Ý (by rw[← r.len];exact hlt),h⟩
  ·obtain⟨w,h1,h2⟩:=r.wor j s e1;exact⟨w,by rw[Õ (À6 n)];exact h1,h2.move (by unfold ow0;exact if_neg n) sm λ_ _=>rfl⟩
theorem RW.O12(r:RW K H0 zE zA ow H ρ σ){i:Nat}(x:Ext zA H H')(hn:H a=none)(za:zA≠some a)(hl:H' a=some (.lst ys))(h:HdA K (hw (ow1 ow i a) (hz zA H')) xs ys)(hi:i < ρ.length) :
  RW K H0 zE zA (ow1 ow i a) H' (ρ.set i (some (.fr xs))) (σ.set i (some (.ref a))):=by
 have r':=r.mono x;have old:∀ j b,ow j=some b->b≠a:=λj b e q=>by
  obtain⟨zs,h1⟩:=r.lst j b e;rw[q,hn] at h1;cases h1
 have sub:∀ j b,ow1 ow i a j=some b->(j=i/\b=a)∨(j≠i/\ow j=some b):=λj b e=>by
  unfold ow1 at e;split at e
  ·rename_i n;cases e;exact .inl ⟨n,rfl⟩
  ·rename_i n;exact .inr ⟨n,e⟩
 have sm:a40 (hw ow (hz zA H)) (hw (ow1 ow i a) (hz zA H')):=λb o e=>by
  obtain⟨e1,e2⟩:=E60 e;have e3:=(o70 e1).1;have hb:b≠a:=λq=>by rw[q,hn] at e3;cases e3
  refine j30 (x b o e1) λj q=>?_;rcases sub j b q with ⟨_,q⟩ | ⟨_,q⟩
  ·exact hb q
  ·exact e2 j q
 refine⟨by rw[û,û];exact r.len,λj k b h1 h2=>?_,λj b h1=>?_,λj b h1=>?_,λj s e=>?_,r'.ext,r.zok,λj b h1=>?_⟩
 ·rcases sub j b h1 with ⟨q1,q2⟩ | ⟨q1,q2⟩
  ·rcases sub k b h2 with ⟨p1,p2⟩ | ⟨p1,p2⟩
   ·rw[q1,p1]
   ·exact absurd q2 (old k b p2)
  ·rcases sub k b h2 with ⟨p1,p2⟩ | ⟨p1,p2⟩
   ·exact absurd p2 (old j b q2)
   ·exact r.inj j k b q2 p2
 ·rcases sub j b h1 with ⟨_,q2⟩ | ⟨_,q2⟩
  ·rw[q2];exact za
  ·exact r.zne j b q2
 ·rcases sub j b h1 with ⟨q1,q2⟩ | ⟨q1,q2⟩
  ·rw[q1];exact⟨xs,Ý hi⟩
  ·obtain⟨zs,h3⟩:=r.own j b q2;exact⟨zs,by rw[Õ (À6 q1)];exact h3⟩
 ·rcases getElem?_set' e with ⟨rfl,e1,hlt⟩ | ⟨n,e1⟩
  ·cases e1;exact⟨.ref a,Ý (by rw[← r.len];exact hlt),a,ys,by unfold ow1;exact if_pos rfl,rfl,hl,h⟩
  ·obtain⟨w,h1,h2⟩:=r.wor j s e1;refine⟨w,by rw[Õ (À6 n)];exact h1,h2.move (by unfold ow1;exact if_neg n) sm λb q=>?_⟩
   obtain⟨zs,k⟩:=r.lst j b q;rw[k];exact x.at k (r.zne j b q)
 ·rcases sub j b h1 with ⟨_,q2⟩ | ⟨_,q2⟩
  ·rw[q2];exact(r.young hn za).1
  ·exact r.new j b q2
theorem RW.upd(r:RW K H0 zE zA ow H ρ σ){i:Nat}(e:ow i=some a)(h:HdA K (hw ow (hz zA H)) xs ys):RW K H0 zE zA ow (upd H a (.lst ys)) (ρ.set i (some (.fr xs))) σ:=by
 have za:=r.zne i a e;have sm:a40 (hw ow (hz zA H)) (hw ow (hz zA (L2.upd H a (.lst ys)))):=λb o q=>by
  obtain⟨e1,e2⟩:=E60 q;obtain⟨e3,e4⟩:=o70 e1;have hb:b≠a:=λz=>e2 i (by rw[z];exact e)
  exact j30 (d20 (by rw[a30 hb];exact e3) e4 (o00 e1)) e2
 obtain⟨xs0,h0⟩:=r.own i a e;have hi:i < ρ.length:=(ä.mp h0).1;obtain⟨v0,s0,a0,ys0,q1,q2,q3,q4⟩:=r.wor i _ h0;rw[e] at q1;cases q1;refine⟨by rw[û];exact r.len,r.inj,r.zne,λj b h1=>?_,λj s q=>?_,⟨λb o q=>?_,λb ps q=>?_⟩,r.zok,r.new⟩
 ·by_cases hj:j=i
  ·subst hj;exact⟨xs,Ý hi⟩
  ·obtain⟨zs,h3⟩:=r.own j b h1;exact⟨zs,by rw[Õ (À6 hj)];exact h3⟩
 ·rcases getElem?_set' q with ⟨rfl,e1,hlt⟩ | ⟨n,e1⟩
  ·cases e1;exact⟨v0,s0,a,ys,e,q2,b50,h.same sm⟩
  ·obtain⟨w,h1,h2⟩:=r.wor j s e1;refine⟨w,h1,h2.move rfl sm λb q=>?_⟩;have hb:b≠a:=λz=>n (r.inj j i b q (by rw[z];exact e))
   exact a30 hb
 ·obtain⟨e1,e2⟩:=o70 (r.ext b o q);have hb:b≠a:=λz=>by
   have:=(o70 q).1;rw[z,r.new i a e] at this;cases this
  exact d20 (by rw[a30 hb];exact e1) e2 (o00 q)
 ·obtain⟨qs,e1⟩:=r.ext.tbl b ps q;have hb:b≠a:=λz=>by rw[z,q3] at e1;cases e1
  exact⟨qs,by rw[a30 hb];exact e1⟩
end
end Q
namespace Q
open PySem L2 PySem.Spec PyProof.Rows
variable [TB:Tb]
def s42:Option È->Z->Z
 |none,_=>none|some _,z=>z
def t30(K:Â)(G:Gs)(E:XK)(H0:Hp)(zE:Option È)(B:Hp)(D:Ends):R O->Prop
 |.ok (.nx ρ) z=>∀ zA ow σ H,RW K H0 zE zA ow H ρ σ->e20 zA z H->a40 B (hw ow (hz zA H))->D.nx σ H|.ok (.rt s) z=>∀ v H,s≠.z->Ext zE H0 H->e20 zE (s42 zE z) H->RvS K zE H0 H s v->D.rt v H|.er c z=>∀ e H,Ext zE H0 H->e20 zE (s42 zE z) H->H e=none->E (.ref (G.cls c)) (some e) H
def tX(K:Â)(G:Gs)(E:XK)(H0:Hp)(zE:Option È)(x:Sm):TS:=λD σ H=>∃ zA ow ρ z r,RW K H0 zE zA ow H ρ σ/\e20 zA z H/\ex G.F zE.isNone x ρ z=some r/\t30 K G E H0 zE (hw ow (hz zA H)) D r
section
variable {K:Â}{G:Gs}{E:XK}{H0 H H':Hp}{zE zA:Option È}{ow:Nat->Option È}{ρ:Env}{σ:L2.St}{Dn:Ends}{z:Z}
theorem X51(zok:zA=zE∨(zE=none/\∀ a,zA=some a->H0 a=none))(st:e20 zA z H):e20 zE (s42 zE z) H:=by
 cases zE with
 |none=>exact⟨trivial,st.tab⟩
 |some a =>
  rcases zok with rfl | ⟨h,_⟩
  ·exact st
  ·cases h
theorem t30.er_(po:t30 K G E H0 zE B Dn (.er c z))(r:RW K H0 zE zA ow H ρ σ):EPost G zA E c z H:=λe H' x st n=>po e H' (e21 r.ext r.zok x) (X51 r.zok st) n
theorem t30.ers(po:t30 K G E H0 zE B Dn rr)(r:RW K H0 zE zA ow H ρ σ):∀ c z1,rr=.er c z1->EPost G zA E c z1 H:=λc z1 e=>by subst e;exact po.er_ r
theorem t30.mono(po:t30 K G E H0 zE B Dn rr)(h:a40 B B'):t30 K G E H0 zE B' Dn rr:=by
 match rr,po with
 |.ok (.nx _) _,po=>exact λzA ow σ H r st sm=>po zA ow σ H r st (a40.trans h sm)|.ok (.rt _) _,po=>exact po|.er _ _,po=>exact po
theorem w40(ow:Nat->Option È)(i:Nat):a40 (hw ow H) (hw (ow0 ow i) H):=λb o e=>by
 obtain⟨e1,e2⟩:=E60 e;refine j30 e1 λj q=>?_;unfold ow0 at q;split at q
 ·cases q
 ·exact e2 j q
theorem E70(ow:Nat->Option È):a40 (hw ow H) (hw (λ_=>none) H):=λb o e=>j30 (E60 e).1 λj q=>nomatch q
theorem I21(x:Ext zA H H')(hn:H a=none)(i:Nat):a40 (hw ow (hz zA H)) (hw (ow1 ow i a) (hz zA H')):=λb o e=>by
 obtain⟨e1,e2⟩:=E60 e;have e3:=(o70 e1).1;have hb:b≠a:=λq=>by rw[q,hn] at e3;cases e3
 refine j30 (x b o e1) λj q=>?_;unfold ow1 at q;split at q
 ·cases q;exact hb rfl
 ·exact e2 j q
theorem v01(e:ow i=some a):a40 (hw ow (hz zA H)) (hw ow (hz zA (upd H a o))):=λb u q=>by
 obtain⟨e1,e2⟩:=E60 q;obtain⟨e3,e4⟩:=o70 e1;have hb:b≠a:=λw=>e2 i (by rw[w];exact e)
 exact j30 (d20 (by rw[a30 hb];exact e3) e4 (o00 e1)) e2
mutual
theorem I31:∀ {p:Pat}{d:D}{ρ ρ':Env},e90 p d ρ=some ρ'->∀ {ow:Nat->Option È}{σ:L2.St}{v:V}{R:L2.St->Hp->Prop},RW K H0 zE zA ow H ρ σ->Hd K (hw ow (hz zA H)) d v ->
  (∀ ow' σ',RW K H0 zE zA ow' H ρ' σ'->a40 (hw ow (hz zA H)) (hw ow' (hz zA H))->R σ' H)->gP K p v σ H R
 |.v i,d,ρ,ρ',e,ow,σ,v,R,r,hd,k=>by
  unfold e90 at e;cases e;unfold gP;exact k _ _ (r.N92 hd) (w40 ow i)
 |.tup ps,d,ρ,ρ',e,ow,σ,v,R,r,hd,k=>by
  unfold e90 at e;cases d with
  |tup l =>
   obtain⟨a,xs,rfl,h1,h2⟩:=hd.B40;unfold gP;exact⟨a,xs,rfl,(a20 zA H).sqT (a40.sqT l10 h1),by rw[h2.length];exact E50 e,v21 e r h2 k⟩
  |_=>cases e
 |.nil,_,_,_,e,_,_,_,_,_,_,_=>by unfold e90 at e;cases e
 |.cons _ _,_,_,_,e,_,_,_,_,_,_,_=>by unfold e90 at e;cases e
theorem v21:∀ {r:Pat}{l:List D}{ρ ρ':Env},bindL r l ρ=some ρ'->∀ {ow:Nat->Option È}{σ:L2.St}{vs:List V}{R:L2.St->Hp->Prop},RW K H0 zE zA ow H ρ σ->HdA K (hw ow (hz zA H)) l vs ->
  (∀ ow' σ',RW K H0 zE zA ow' H ρ' σ'->a40 (hw ow (hz zA H)) (hw ow' (hz zA H))->R σ' H)->gL K r vs σ H R
 |.nil,l,ρ,ρ',e,ow,σ,vs,R,r,hd,k=>by
  unfold bindL at e;cases l with
  |nil =>
   cases e;unfold gL;exact⟨hd.f30,k ow σ r (a40.refl _)⟩
  |cons x l=>cases e
 |.cons p q,l,ρ,ρ',e,ow,σ,vs,R,r,hd,k=>by
  unfold bindL at e;cases l with
  |nil=>cases e
  |cons x l =>
   obtain⟨ρ1,e1,e2⟩:=Î.mp e;obtain⟨v,ws,rfl,h1,h2⟩:=hd.c00;unfold gL;exact⟨v,ws,rfl,I31 e1 r h1 λow' σ' r' sm=>v21 e2 r' (h2.same sm) λow2 σ2 r2 sm2=>k ow2 σ2 r2 (a40.trans sm sm2)⟩
 |.v _,_,_,_,e,_,_,_,_,_,_,_=>by unfold bindL at e;cases e
 |.tup _,_,_,_,e,_,_,_,_,_,_,_=>by unfold bindL at e;cases e
end
theorem v31(r:RW K H0 zE zA ow H ρ σ)(s:S):∃ ow',RW K H0 zE zA ow' H (i90 s ρ) σ/\a40 (hw ow (hz zA H)) (hw ow' (hz zA H))/\(k01 s=true∨∀ i,ow' i=none):=by
 unfold i90;rw[S40];cases hb:k01 s with
 |true=>exact⟨ow,r,a40.refl _,.inl rfl⟩|false=>exact⟨_,r.X80,E70 ow,.inr λ_=>rfl⟩
theorem e31{p:Pat}{s:S}{v:V}{ρ':Env}{R:L2.St->Hp->Prop}(r:RW K H0 zE zA ow H ρ σ)(x:Ext zA H H')(rv:RvS K zA H H' s v)(e:G90 p s (i90 s ρ)=some ρ')
  (k:∀ ow' σ',RW K H0 zE zA ow' H' ρ' σ'->a40 (hw ow (hz zA H)) (hw ow' (hz zA H'))->R σ' H'):gP K p v σ H' R:=by
 obtain⟨owk,r1,s1,b1⟩:=v31 r s;have r2:=r1.mono x;have s2:a40 (hw ow (hz zA H)) (hw owk (hz zA H')):=a40.trans s1 (e00 x);cases s with
 |d y =>
  have e':e90 p y (i90 (.d y) ρ)=some ρ':=by cases p <;> exact e
  refine I31 e' r2 ?_ λow' σ' r3 s3=>k ow' σ' r3 (a40.trans s2 s3);rcases b1 with b1 | b1
  ·exact M60 r2.X41 b1 rv
  ·have:owk=λ_=>none:=funext b1;subst this;rw[y40];exact rv
 |z =>
  cases p with
  |v i =>
   simp only[G90] at e;split at e
   ·cases e;unfold gP;exact k _ _ (r2.O02 (t:=.z) ⟨if_pos rfl,rv⟩) (a40.trans s2 (w40 owk i))
   ·cases e
  |_=>cases e
 |fr xs =>
  cases p with
  |v i =>
   simp only[G90] at e;split at e
   ·rename_i hi;cases e;unfold gP;obtain⟨a,ys,rfl,h1,h2,h3,h4⟩:=rv;refine k _ _ (r1.O12 x h1 h2 h3 ?_ hi) (a40.trans s1 (I21 x h1 i));rcases b1 with b1 | b1
    ·refine B70 (λj b q=>?_) b1 (h4.same (d80 a _));unfold ow1 at q;split at q
     ·cases q;exact⟨ys,d20 h3 h2⟩
     ·exact r2.X41 j b q
    ·refine h4.same λb o q=>?_;have hb:b≠a:=λw=>by subst w;unfold hide at q;rw[if_pos rfl] at q;cases q
     refine j30 (d80 a _ b o q) λj w=>?_;unfold ow1 at w;split at w
     ·cases w;exact hb rfl
     ·rw[b1 j] at w;cases w
   ·cases e
  |_=>cases e
end
end Q
namespace Q
open PySem L2 PySem.Spec PyProof.Rows
variable [TB:Tb]
theorem X61(h:m00 v=false):Ã5 [tg] v env=pure none:=by
 cases tg <;> first | rfl | (cases v <;> first | (cases h;done) | rfl)
theorem X71(h:vs.all (Ø1 8)=true):Ã5 [.Tuple ts k p] (.Tuple vs k' p') env=pure none:=by
 unfold Ã5;simp only[h,if_true];split
 ·rfl
 ·split
  ·rfl
  ·split
   ·rfl
   ·rfl
def v41(look:Str->Option É2):Ð->Bool
 |.Name id _=>look id != some .local|_=>true
theorem X81(h:ts.any (v41 env.kindOf)=true):Ã5 [.Tuple ts k p] (.Tuple vs k' p') env=pure none:=by
 have hl:∀ (l:Nat) (ts:List Ð),ts.any (v41 env.kindOf)=true->(ts.filterMap fun
   |.Name id pos=>if env.kindOf id == some .local&&pos.line == l then some id else none
   |_=>none).length < ts.length:=by
  intro l ts
  induction ts with
  |nil=>intro h;cases h
  |cons e r ih =>
   intro h;have le:=List.length_filterMap_le (fun
    |.Name id pos=>if env.kindOf id == some .local&&pos.line == l then some id else none
    |_=>none:Ð->Option Str) r
   rw[List.any_cons,Å1] at h;rw[Á2];split
   ·rw[Ú];omega
   ·rename_i b hb;rcases h with h | h
    ·exfalso;cases e with
     |Name id pos =>
      have h':(env.kindOf id != some .local)=true:=h;simp only[bne_iff_ne,ne_eq] at h';simp[h'] at hb
     |_=>cases hb
    ·have:=ih h;rw[Ú,Ú];omega
 unfold Ã5;dsimp only;split
 ·rfl
 ·split
  ·rfl
  ·have:=hl ((ts.head?.map (·.pos.line)).getD 0) ts h;rw[if_pos];simp only[Å1,bne_iff_ne,ne_eq];exact .inl (ê this)
theorem m52{x y:Str}{a b:Ð}{px py pt pt2:Pos}{k k2:Nat}{env:Ç1}(hb:env.blockKind=.function)(hx:env.kindOf x=some .local)(hy:env.kindOf y=some .local)(hxy:(x == y)=false)(hl:(py.line == px.line)=true)
  (ha:noStar a=true) (hb':noStar b=true) (hf:[a,b].all (Ø1 8)=false) (hc:[a,b].all (constantsAlone 8)=false) :
  Ã5 [.Tuple [.Name x px,.Name y py] k pt] (.Tuple [a,b] k2 pt2) env=pure (some [x,y]):=by
 have hbk:(env.blockKind != .function)=false:=by rw[hb];rfl
 have e1:(x == x)=true:=beq_self_eq_true x;have hyx:(y == x)=false:=by
  cases h:y == x with
  |false=>rfl|true=>rw[beq_iff_eq] at h;subst h;rw[e1] at hxy;cases hxy
 have hl2:(Ð.Name x px).pos.line=px.line:=rfl;have hl3:(Ð.Name y py).pos.line=py.line:=rfl;have hl':py.line=px.line:=by simpa using hl
 unfold Ã5;simp only[List.filterMap,List.head?,Ì5,Option.getD,hx,hy,hf,hc,hbk,hl2,hl'];simp[List.eraseDups,List.eraseDupsBy,List.eraseDupsBy.loop,hyx,hxy];intro h;rcases h with h | h
 ·cases a <;> first | (cases h;done) | (cases ha;done)
 ·cases b <;> first | (cases h;done) | (cases hb';done)
def T50:Ð->Bool
 |.ListComp ..=>false|.SetComp ..=>false|.DictComp ..=>false|_=>true
theorem w50(h:T50 v=true)(t:Option Ð):Ñ4 v t n env=pure false:=by
 cases v <;> first | rfl | (cases h;done)
theorem T60(h:(match tg with | .Name ..=>true | _=>false)=false):Ñ4 v (some tg) n env=pure false:=by
 cases v <;> first | rfl | (cases tg <;> first | rfl | (cases h;done))
theorem I41{el:Ð}{gs:List Comprehension}{sc:Á3}{p px:Pos}{t:Str}{n:Nat}{env:Ç1}:∃ b,Ñ4 (.ListComp el gs sc p) (some (.Name t px)) n env=pure b:=⟨_,rfl⟩
structure XS(lm:Bool)(X:Cx)(G:Gs)(E:XK)(N:List Str)(sc:Scope)(cn:List Str):Prop extends XI lm X G E N sc where
 sco:X.env.scope=sc
 fnk:sc.kind=.function
 own:PassesOwn (model X.prog X.w) X.A X.env X.xe
 can:K90 X E
 fnx:∀ x,X.fn x=true
 cls:∀ c x,cn[c]?=some x->X.mg x=some (.ref (G.cls c))/\PySem.W.excIn X.K (G.cls c) [.type "ValueError",.type "Exception",.type "BaseException",.type "object"] "ValueError.__new__"=true
def z60(sc:Á3)(x:Str):Bool:=sc.names.lookup x == some .local || sc.names.lookup x == some .cell
section
variable {lm:Bool}{X:Cx}{G:Gs}{E:XK}{N:List Str}{sc:Á3}{cn:List Str}{H0:Hp}{zE:Option È}
theorem XS.loc(x:XS lm X G E N sc cn):H81 X N (z60 sc):=by
 refine⟨x.hN,x.nd,λy h=>?_,λy _=>.inl (x.fnx y),x.calm⟩;unfold z60 at h;rw[Å1,beq_iff_eq,beq_iff_eq] at h;rw[x.sco];exact h
theorem XS.bk(x:XS lm X G E N sc cn):X.env.blockKind=.function:=by
 unfold Env.blockKind;rw[x.sco,x.fnk];rfl
theorem PS.imp{st:Ã9}{t t':TS}(h:PS X st t)(i:∀ D σ H,t' D σ H->t D σ H):PS X st t':=λpins s σ H D I q=>h pins s σ H D I (i _ _ _ q)
theorem PSs.imp{st:List Ã9}{t t':TS}(h:PSs X st t)(i:∀ D σ H,t' D σ H->t D σ H):PSs X st t':=λpins s σ H D I q=>h pins s σ H D I (i _ _ _ q)
theorem B12:PSs X [] (tX X.K G E H0 zE .nil):=PSs.imp Q71 λD σ H q=>by
 obtain⟨zA,ow,ρ,z,r,rw,st,e,po⟩:=q;cases e;exact po zA ow σ H rw st (a40.refl _)
theorem B22{s r:Sm}{st:Ã9}{rest:List Ã9}(h1:PS X st (tX X.K G E H0 zE s))(h2:PSs X rest (tX X.K G E H0 zE r)):PSs X (st::rest) (tX X.K G E H0 zE (.seq s r)):=PSs.imp (I90 h1 h2) λD σ H q=>by
 obtain⟨zA,ow,ρ,z,rr,rw,st,e,po⟩:=q;have e0:M.bind (ex G.F zE.isNone s ρ) (λo=>match o with | .nx ρ=>ex G.F zE.isNone r ρ | .rt s=>M.ret (.rt s)) z=some rr:=e
 rcases M.bind_some e0 with ⟨o,z1,e1,e2⟩ | ⟨c,z1,e1,e2⟩
 ·refine⟨zA,ow,ρ,z,_,rw,st,e1,?_⟩;cases o with
  |nx ρ1=>exact λzA' ow' σ' H' rw' st' sm=>⟨zA',ow',ρ1,z1,rr,rw',st',e2,po.mono sm⟩|rt s=>cases e2;exact po
 ·subst e2;exact⟨zA,ow,ρ,z,_,rw,st,e1,po⟩
theorem O91{p:Pat}{e:Ex}{D:Ends}{σ:L2.St}{H:Hp}(q:tX X.K G E H0 zE (.set p e) D σ H):e42 (tI X.K G E e) (gP X.K p) D σ H:=by
 obtain⟨zA,ow,ρ,z,rr,rw,st,ee,po⟩:=q;refine k40 rw.M70 st ee (po.ers rw) λl z1 e1=>?_;obtain⟨s,hs,e2⟩:=M.a10 e1;refine⟨s,E30 hs,λv H1 x1 st1 rv=>?_⟩;obtain⟨ρ',hb,e3⟩:=M.a10 e2;cases e3;exact e31 rw x1 rv hb λow' σ' r' sm=>po zA ow' σ' H1 r' st1 sm
theorem H32{K:Â}{i:Nat}:gP K (.v i)=Q00 i:=by unfold gP;rfl
theorem B32(x:XS lm X G E N sc cn){i:Nat}{e:Ex}{y:Str}{v:Ð}{px pos:Pos}(hi:N[i]?=some y)(hl:z60 sc y=true)(g:a90 X G E e v)
  (hc:∀ elt gs csc q,v=.ListComp elt gs csc q->∃ tg iter ifs,gs=[⟨tg,iter,ifs,0⟩]/\I20 X G E e elt tg iter ifs csc) (hno:∀ a b c d,v≠.SetComp a b c d)
  (hnd:∀ a b c d f,v≠.DictComp a b c d f) :
  PS X (.Assign [.Name y px] v pos) (tX X.K G E H0 zE (.set (.v i) e)):=by
 have L:=x.loc;refine PS.imp (t:=e42 (tI X.K G E e) (Q00 i)) ?_ λD σ H q=>by rw[← H32 (K:=X.K)];exact O91 q
 have h1:X.N.Nodup:=by rw[x.hN];exact x.nd
 have h2:X.N[i]?=some y:=by rw[x.hN];exact hi
 by_cases hv:∃ elt gs csc q,v=.ListComp elt gs csc q
 ·obtain⟨elt,gs,csc,q,rfl⟩:=hv;obtain⟨b,hb⟩:=I41 (el:=elt) (gs:=gs) (sc:=csc) (p:=q) (px:=px) (t:=y) (n:=pos.line) (env:=X.env);cases b with
  |false=>exact b11 h1 h2 (L.lc y hl) g.pe hb (L.fn y hl)
  |true =>
   obtain⟨tg,iter,ifs,rfl,own,capt,wi,gg,tt,te,k1,k2,k3,k4,k5,k6,k7⟩:=hc elt gs csc q rfl;refine PS.imp (S31 h1 h2 (L.lc y hl) hb x.calm k1 k2 k3 k4 k5 k6 (L.fn y hl)) λD σ H q=>k7 _ _ _ q
 ·exact b11 h1 h2 (L.lc y hl) g.pe (w50 (by cases v <;> first | rfl | exact absurd rfl (hno _ _ _ _) | exact absurd rfl (hnd _ _ _ _ _) | exact absurd ⟨_,_,_,_,rfl⟩ hv) _) (L.fn y hl)
theorem v51(x:XS lm X G E N sc cn)(hp:i10 N (z60 sc) p tg=true)(g:a90 X G E e v)(ht:m00 tg=true)(hv:Ã5 [tg] v X.env=pure none) :
  PS X (.Assign [tg] v pos) (tX X.K G E H0 zE (.set p e)):=by
 refine PS.imp (M01 g.pe (k51 x.loc hp) ?_ hv ?_) λD σ H q=>O91 q
 ·exact T60 (by cases tg <;> first | rfl | (cases ht;done))
 ·cases tg <;> first | rfl | (cases ht;done)
theorem B42(x:XS lm X G E N sc cn){i j:Nat}{ea eb:Ex}{a b:Ð}{y w:Str}{px py pt pt2 pos:Pos}{k k2:Nat}(hi:N[i]?=some y)(hj:N[j]?=some w)(hyw:(y == w)=false)(hy:sc.names.lookup y=some .local)(hw':sc.names.lookup w=some .local)
  (g:Good X G E (.cons ea (.cons eb .nil)) [a,b]) (hs:Ã5 [.Tuple [.Name y px,.Name w py] k pt] (.Tuple [a,b] k2 pt2) X.env=pure (some [y,w])) :
  PS X (.Assign [.Tuple [.Name y px,.Name w py] k pt] (.Tuple [a,b] k2 pt2) pos) (tX X.K G E H0 zE (.set (.tup (.cons (.v i) (.cons (.v j) .nil))) (.tup (.cons ea (.cons eb .nil))))):=by
 have hij:i≠j:=λh=>by
  subst h;rw[hi] at hj;cases hj;rw[beq_self_eq_true] at hyw;cases hyw
 refine PS.imp (e52 x.calm (by rw[x.hN];exact x.nd) (by rw[x.hN];exact hi) (by rw[x.hN];exact hj) hij (by rw[x.sco];exact hy) (by rw[x.sco];exact hw') (g.args rfl).1 hs rfl) λD σ H q=>?_
 obtain⟨zA,ow,ρ,z,rr,rw,st,ee,po⟩:=q;have e0:M.bind (M.bind (ev G.F (.cons ea (.cons eb .nil)) ρ) λl=>M.bind (M.of (plA l)) λds=>if ds.length<=most then M.ret [S.d (.tup ds)] else M.no) (λl=>M.bind (M.of (one l)) λs=>M.bind (M.of (G90 (.tup (.cons (.v i) (.cons (.v j) .nil))) s (i90 s ρ))) λρ=>M.ret (O.nx ρ)) z=some rr:=ee;rcases M.bind_some e0 with ⟨l0,z0,e1,e2⟩ | ⟨c,z1,e1,e2⟩
 ·rcases M.bind_some e1 with ⟨l,z1,e3,e4⟩ | ⟨c,z1,e3,e4⟩
  ·obtain⟨ds,hds,e5⟩:=M.a10 e4;split at e5
   ·cases e5;obtain⟨s,hs',e6⟩:=M.a10 e2;cases hs';obtain⟨ρ',hb,e7⟩:=M.a10 e6;cases e7;refine⟨zA,ρ,z,_,rw.M70,st,e3,λvs H1 x1 st1 rvs=>?_⟩;have hd:=L90 rvs hds;obtain⟨owk,r1,s1,b1⟩:=v31 rw (.d (.tup ds));have hb':bindL (.cons (.v i) (.cons (.v j) .nil)) ds (i90 (.d (.tup ds)) ρ)=some ρ':=by
     have:e90 (.tup (.cons (.v i) (.cons (.v j) .nil))) (.tup ds) (i90 (.d (.tup ds)) ρ)=some ρ':=hb;unfold e90 at this;exact this
    have r2:=r1.mono x1;have hd2:HdA X.K (hw owk (hz zA H1)) ds vs:=by
     rcases b1 with b1 | b1
     ·exact B70 r2.X41 (by simpa [k01,bare] using b1) hd
     ·have:owk=λ_=>none:=funext b1;subst this;rw[y40];exact hd
    have:=v21 hb' (R:=D.nx) r2 hd2 λow' σ' r' sm=>po zA ow' σ' H1 r' st1 (a40.trans s1 (a40.trans (e00 x1) sm));unfold gL at this;obtain⟨v,vr,rfl,this⟩:=this;unfold gP gL at this;obtain⟨u,ur,rfl,this⟩:=this;unfold gP gL at this;obtain⟨rfl,this⟩:=this;exact⟨v,u,rfl,this⟩
   ·cases e5
  ·cases e4
 ·subst e2;rcases M.bind_some e1 with ⟨l,z2,e3,e4⟩ | ⟨c,z2,e3,e4⟩
  ·obtain⟨ds,hds,e5⟩:=M.a10 e4;split at e5 <;> cases e5
  ·cases e4;exact⟨zA,ρ,z,_,rw.M70,st,e3,po.er_ rw⟩
theorem P01{s t:S}(h:noS s=some t):s=t/\t≠.z:=by
 cases s with
 |z=>cases h
 |d _=>cases h;exact⟨rfl,λh=>nomatch h⟩
 |fr _=>cases h;exact⟨rfl,λh=>nomatch h⟩
theorem m62(x:XS lm X G E N sc cn){i:Nat}{n:Str}{p pos:Pos}(h1:N[i]?=some n)(h2:c10 n=true):PS X (.Return (some (.Name n p)) pos) (tX X.K G E H0 zE (.ret (.var i))):=by
 unfold c10 at h2;simp only[À,ø] at h2;refine PS.imp (n21 (n80 (i:=i) (by rw[x.hN];exact h1) (x.vis n (é h1)) h2.1 h2.2)) λD σ H q=>?_
 obtain⟨zA,ow,ρ,z,rr,rw,st,ee,po⟩:=q;have e0:(match ρ[i]? with | some (some s)=>M.bind (M.of (noS s)) λs=>M.ret (O.rt s) | _=>M.no) z=some rr:=ee
 cases hs:ρ[i]? with
 |none=>rw[hs] at e0;cases e0
 |some o =>
  cases o with
  |none=>rw[hs] at e0;cases e0
  |some s =>
   rw[hs] at e0;obtain⟨t,ht,e1⟩:=M.a10 e0;cases e1;obtain⟨rfl,nz⟩:=P01 ht;obtain⟨v,k1,k2⟩:=rw.N82 nz hs;exact⟨v,k1,po v H nz rw.ext (X51 rw.zok st) k2⟩
theorem B52(hv:∀ i,e≠.var i)(g:a90 X G E e v):PS X (.Return (some v) pos) (tX X.K G E H0 zE (.ret e)):=by
 refine PS.imp (n21 g.pe) λD σ H q=>?_;obtain⟨zA,ow,ρ,z,rr,rw,st,ee,po⟩:=q;have e0:M.bind (ev G.F e ρ) (λl=>M.bind (M.of ((one l).bind noS)) λs=>M.ret (O.rt s)) z=some rr:=by
  cases e <;> first | exact ee | exact absurd rfl (hv _)
 refine k40 rw.M70 st e0 (po.ers rw) λl z1 e1=>?_;obtain⟨t,ht,e2⟩:=M.a10 e1;cases e2;obtain⟨s,hs,hn⟩:=Î.mp ht;obtain⟨rfl,nz⟩:=P01 hn;exact⟨s,E30 hs,λv H1 x1 st1 rv=>po v H1 nz (e21 rw.ext rw.zok x1) (X51 rw.zok st1) (rw.out nz x1 rv)⟩
theorem O22(g:a90 X G E c ce)(hn:∀ t a b p,ce≠.IfExp t a b p)(ha:PSs X a (tX X.K G E H0 zE t))(hb:PSs X b (tX X.K G E H0 zE u)) :
  PS X (.If ce a b pos) (tX X.K G E H0 zE (.iff c t u)):=by
 refine PS.imp (u02 (g.pt hn) ha hb) λD σ H q=>?_;obtain⟨zA,ow,ρ,z,rr,rw,st,ee,po⟩:=q;refine T00 rw.M70 st ee (po.ers rw) λb z1 e1 H1 x1 st1=>?_;have r1:=rw.mono x1;have sm:a40 (hw ow (hz zA H)) (hw ow (hz zA H1)):=e00 x1;cases b with
 |true=>exact⟨zA,ow,ρ,z1,rr,r1,st1,e1,po.mono sm⟩|false=>exact⟨zA,ow,ρ,z1,rr,r1,st1,e1,po.mono sm⟩
theorem B62(g:a90 X G E e v)(h:T50 v=true):PS X (.Expr v pos) (tX X.K G E H0 zE (.exp e)):=by
 refine PS.imp (W70 g.pe (w50 h none)) λD σ H q=>?_;obtain⟨zA,ow,ρ,z,rr,rw,st,ee,po⟩:=q;have e0:M.bind (ev G.F e ρ) (λl=>M.bind (M.of (one l)) λ_=>M.ret (O.nx ρ)) z=some rr:=ee;refine k40 rw.M70 st e0 (po.ers rw) λl z1 e1=>?_;obtain⟨s,hs,e2⟩:=M.a10 e1;cases e2;exact⟨s,E30 hs,λv H1 x1 st1 rv=>po zA ow σ H1 (rw.mono x1) st1 (e00 x1)⟩
def s52:Bi->Ì9->Bool
 |.mul,.Mult=>true|.add,.Add=>true|_,_=>false
theorem m72(h:s52 o op=true):PIp X op λx y H Q=>∃ i j k,x=.int i/\y=.int j/\x90 o (.int i) (.int j)=some (.d (.int k))/\Q (.int k) H:=by
 intro pins s σ H x y v u Q I r1 r2 q;obtain⟨i,j,k,rfl,rfl,e,q⟩:=q;obtain⟨t,rfl⟩:=r1;obtain⟨t',rfl⟩:=r2;cases o <;> cases op <;> first | (cases h;done) | skip
 ·cases e;exact iadd_int ⟨.int _,H,I.tok _,⟨_,rfl⟩,q⟩
 ·obtain⟨hl,e⟩:=e80 e;cases e;exact imul_int ⟨.int _,H,I.tok _,⟨_,rfl⟩,q⟩ (N51 hl.1 hl.2)
theorem X91{o:Bi}{op:Ì9}(h:s52 o op=true){i j:Int}{s:S}(e:x90 o (.int i) (.int j)=some s):∃ k,s=.d (.int k):=by
 cases o <;> cases op <;> first | (cases h;done) | skip
 ·cases e;exact⟨_,rfl⟩
 ·obtain⟨_,e⟩:=e80 e;cases e;exact⟨_,rfl⟩
theorem v61(h:asI d=some i):d=.int i:=by cases d <;> first | (cases h;rfl) | (cases h;done)
theorem B72(x:XS lm X G E N sc cn){i:Nat}{o:Bi}{e:Ex}{y:Str}{v:Ð}{op:Ì9}{px pos:Pos}(hi:N[i]?=some y)(hl:z60 sc y=true)(ho:s52 o op=true)(g:a90 X G E e v):PS X (.AugAssign (.Name y px) op v pos) (tX X.K G E H0 zE (.aug o i e)):=by
 have L:=x.loc;refine PS.imp (e62 (i:=i) (by rw[x.hN];exact x.nd) (by rw[x.hN];exact hi) (L.lc y hl) g.pe (m72 ho) (L.fn y hl)) λD σ H q=>?_
 obtain⟨zA,ow,ρ,z,rr,rw,st,ee,po⟩:=q;obtain⟨yd,hy,e1⟩:=M.a10 ee;obtain⟨s0,hs0,hy⟩:=Î.mp hy;have hr:ρ[i]?=some (some s0):=by
  cases h:ρ[i]? with
  |none=>rw[h] at hs0;cases hs0
  |some w=>rw[h] at hs0;cases hs0;rfl
 obtain⟨w,k1,k2⟩:=rw.wor i s0 hr;refine⟨w,k1,?_⟩;refine k40 rw.M70 st e1 (po.ers rw) λl z1 e2=>?_;obtain⟨xi,hx,e3⟩:=M.a10 e2;obtain⟨dx,hx1,hx2⟩:=Î.mp hx;obtain⟨s1,rfl,hs1⟩:=f40 hx1;cases v61 hx2;refine⟨s1,rfl,λu H1 x1 st1 rv=>?_⟩;obtain⟨s2,hb,e4⟩:=M.a10 e3;obtain⟨yi,hyi,hb⟩:=Î.mp hb;cases v61 hyi;obtain⟨k,rfl⟩:=X91 ho hb;have hw:w=.int yi:=by
  cases s0 with
  |d x=>cases hy;exact(show Hd X.K (hw ow (hz zA H)) (.int yi) w from k2.2).h60
  |_=>cases hy
 refine⟨yi,xi,k,hw,(show Hd X.K (hz zA H1) (.int xi) u from rv.pl.d_ hs1).h60,hb,?_⟩;obtain⟨ρ',hp,e5⟩:=M.a10 e4;cases e5;have:=e31 (R:=λσ' H'=>D.nx σ' H') rw x1 j10 hp λow' σ' r' sm=>po zA ow' σ' H1 r' st1 sm;rw[H32] at this;exact this
theorem x_raise(x:XS lm X G E N sc cn){c:Nat}{n:Str}{y:Str}{k:Nat}{p1 p2 p3 p4:Pos}(hc:cn[c]?=some n)(hg:glob sc n=true):PS X (.Raise (some (.Call (.Name n p1) [.Constant (.str y) k p2] [] p3)) none p4) (tX X.K G E H0 zE (.rais c)):=by
 obtain⟨k1,k2,_⟩:=d90 hg;obtain⟨m1,m2⟩:=x.cls c n hc;refine PS.imp (G41 x.can x.calm (x.glb n k1) m1 m2 (g70 L91 v00) k2 rfl rfl) λD σ H q=>?_;obtain⟨zA,ow,ρ,z,rr,rw,st,ee,po⟩:=q;cases ee;exact⟨by show 1<=sizeLine;decide,λe hn=>po e H rw.ext (X51 rw.zok st) hn⟩
end
section
variable {K:Â}{H0 H H':Hp}{zE zA:Option È}{ow:Nat->Option È}{ρ:Env}{σ:L2.St}
theorem g90(e:ow0 ow i j=some a):j≠i/\ow j=some a:=by
 unfold ow0 at e;split at e
 ·cases e
 ·rename_i n;exact⟨n,e⟩
theorem B80:ow0 ow i i=none:=if_pos rfl
theorem v71(h:j≠i):ow0 ow i j=ow j:=if_neg h
theorem I51{ρ:Env}{j:Nat}{s:S}(h:(S30 ρ)[j]?=some (some s)):ρ[j]?=some (some s)/\s≠.z:=by
 unfold S30 at h;rw[Ö] at h;obtain⟨o,e1,e2⟩:=Ë.mp h;cases o with
 |none=>cases e2
 |some t =>
  cases t with
  |z=>cases e2
  |d x=>cases e2;exact⟨e1,λh=>nomatch h⟩
  |fr x=>cases e2;exact⟨e1,λh=>nomatch h⟩
theorem Y01{j:Nat}(h:ρ[j]?=some (some (.fr xs))):(S30 ρ)[j]?=some (some (.fr xs)):=by
 unfold S30;rw[Ö,h];rfl
theorem RW.O32(r:RW K H0 none zA ow H ρ σ){i:Nat}(x:Ext zA H H')(hn:H a=none)(za:zA≠some a)(hl:H' a=some (.lst ys)) :
  RW K H0 none (some a) (ow0 ow i) H' ((S30 ρ).set i (some .z)) (σ.set i (some (.ref a)))/\a40 (hw ow (hz zA H)) (hw (ow0 ow i) (hz (some a) H')):=by
 have r':=r.mono x;have old:∀ j b,ow j=some b->b≠a:=λj b e q=>by
  obtain⟨zs,h1⟩:=r.lst j b e;rw[q,hn] at h1;cases h1
 have sm:a40 (hw ow (hz zA H)) (hw (ow0 ow i) (hz (some a) H')):=λb o e=>by
  obtain⟨e1,e2⟩:=E60 e;have hb:b≠a:=λq=>by
   have e3:H b=some o:=(o70 e1).1;rw[q,hn] at e3;cases e3
  exact j30 (d20 (o70 (x b o e1)).1 (λq=>by cases q;exact hb rfl) (o00 e1)) λj q=>e2 j (g90 q).2
 have dl:(S30 ρ).length=ρ.length:=by unfold S30;rw[Ç]
 refine⟨⟨by rw[û,û,dl];exact r.len,λj k b h1 h2=>r.inj j k b (g90 h1).2 (g90 h2).2,λj b h1 q=>?_,λj b h1=>?_,λj s e=>?_,r'.ext,.inr ⟨rfl,λb q=>?_⟩,λj b h1=>r.new j b (g90 h1).2⟩,sm⟩
 ·cases q;exact old j _ (g90 h1).2 rfl
 ·obtain⟨n,h2⟩:=g90 h1;obtain⟨xs,h3⟩:=r.own j b h2;exact⟨xs,by rw[Õ (À6 n)];exact Y01 h3⟩
 ·rcases getElem?_set' e with ⟨rfl,e1,hlt⟩ | ⟨n,e1⟩
  ·cases e1;exact⟨.ref a,Ý (by rw[← r.len,← dl];exact hlt),B80,a,rfl,rfl⟩
  ·obtain⟨e1,nz⟩:=I51 e1;obtain⟨w,h1,h2⟩:=r.wor j s e1;refine⟨w,by rw[Õ (À6 n)];exact h1,?_⟩
   cases s with
   |d y=>exact⟨by rw[v71 n];exact h2.1,h2.2.same sm⟩|z=>exact absurd rfl nz
   |fr xs =>
    obtain⟨b,zs,k1,rfl,k3,k4⟩:=h2;exact⟨b,zs,by rw[v71 n];exact k1,rfl,x.at k3 (r.zne j b k1),k4.same sm⟩
 ·cases q;exact(r.young hn za).1
theorem RW.plain(r:RW K H0 zE zA ow H ρ σ)(i:Nat):RW K H0 zE zA (ow0 ow i) H (ρ.set i ((ρ[i]?.getD none).map plS)) σ:=by
 have sm:=w40 (H:=hz zA H) ow i;refine⟨by rw[û];exact r.len,λj k b h1 h2=>r.inj j k b (g90 h1).2 (g90 h2).2,λj b h1=>r.zne j b (g90 h1).2,λj b h1=>?_,λj s e=>?_,r.ext,r.zok,λj b h1=>r.new j b (g90 h1).2⟩
 ·obtain⟨n,h2⟩:=g90 h1;obtain⟨xs,h3⟩:=r.own j b h2;exact⟨xs,by rw[Õ (À6 n)];exact h3⟩
 ·rcases getElem?_set' e with ⟨rfl,e1,hlt⟩ | ⟨n,e1⟩
  ·cases hs:ρ[j]? with
   |none=>rw[hs] at e1;cases e1
   |some o =>
    rw[hs] at e1;cases o with
    |none=>cases e1
    |some s0 =>
     cases e1;obtain⟨w,h1,h2⟩:=r.wor j s0 hs;refine⟨w,h1,?_⟩;cases s0 with
     |d y=>exact⟨B80,h2.2.same sm⟩|z=>exact⟨B80,h2.2⟩
     |fr xs =>
      obtain⟨b,zs,k1,rfl,k3,k4⟩:=h2;refine⟨B80,Hd.lst (j30 (d20 k3 (r.zne j b k1)) λk q=>?_) (k4.same sm)⟩;obtain⟨q1,q2⟩:=g90 q;exact q1 (r.inj k j b q2 k1)
  ·obtain⟨w,h1,h2⟩:=r.wor j s e1;exact⟨w,h1,h2.move (v71 n) sm λ_ _=>rfl⟩
end
theorem HdA.eraseIdx{K:Â}{H:Hp}:∀ {ds:List D}{vs:List V} (n:Nat),HdA K H ds vs->HdA K H (ds.eraseIdx n) (vs.eraseIdx n)
 |[],_,n,h=>by rw[h.f30];exact .nil
 |d::ds,_,0,h=>by
  obtain⟨x,r,rfl,h1,h2⟩:=h.c00;exact h2
 |d::ds,_,n + 1,h=>by
  obtain⟨x,r,rfl,h1,h2⟩:=h.c00;exact .cons h1 (HdA.eraseIdx n h2)
section
variable {lm:Bool}{X:Cx}{G:Gs}{E:XK}{N:List Str}{sc:Á3}{cn:List Str}{H0:Hp}{zE:Option È}
theorem Y11{α β:Type}{R:α->β->Prop}{a:α}{vs:List β}(h:Ã4 R [a] vs):∃ v,vs=[v]/\R a v:=by
 cases h with
 |cons h1 h2=>cases h2;exact⟨_,rfl,h1⟩
theorem e20.a30(st:e20 zA z H)(n:zA≠some a)(h:H a=some (.lst xs)):e20 zA z (upd H a o):=by
 refine⟨?_,λp hp=>Tab.upd (st.tab p hp) h⟩;have st:=st.zat;cases zA with
 |none=>cases z <;> exact st
 |some b =>
  cases z with
  |none=>exact st
  |some p =>
   have hb:b≠a:=λq=>n (by rw[q])
   exact(L2.a30 hb).trans st
theorem P11(h:ownAt ρ i=some xs):ρ[i]?=some (some (.fr xs)):=by
 unfold ownAt at h;split at h
 ·rename_i h1;cases h;exact h1
 ·cases h
theorem I61{K:Â}{zA:Option È}{H0 H:Hp}{s:S}{v:V}{x:D}(h:RvS K zA H0 H s v)(e:plD s=some x):Hd K (hz zA H) x v:=h.pl.d_ e
theorem B82(x:XS lm X G E N sc cn){i:Nat}{n:Str}{e:Ex}{v:Ð}{p apos cpos pos:Pos}(h1:N[i]?=some n)(h2:c10 n=true)(ns:noStar v=true)(g:a90 X G E e v)(hl:(apos.endLine == cpos.line)=true) :
  PS X (.Expr (.Call (.Attribute (.Name n p) "append" apos) [v] [] cpos) pos) (tX X.K G E H0 zE (.app i e)):=by
 unfold c10 at h2;simp only[À,ø] at h2;have ga:Good X G E (.cons e .nil) [v]:=⟨v,[],rfl,ns,g,rfl,rfl⟩;have hs:=d50 ns [] X.env;refine PS.imp (W70 (R91 Û0 Ú2 Ú1 R50 (n80 (i:=i) (by rw[x.hN];exact h1) (x.vis n (é h1)) h2.1 h2.2) (ga.args rfl).1 rfl (by rw[hs];rfl) hl hs rfl) (w50 rfl none)) λD σ H q=>?_
 obtain⟨zA,ow,ρ,z,rr,rw,st,ee,po⟩:=q;obtain⟨xs,hx,e1⟩:=M.a10 ee;have ho:=P11 hx;obtain⟨w,k1,a,ys,k2,rfl,k3,k4⟩:=rw.wor i _ ho;refine⟨_,k1,.inl ⟨rfl,ys,SqL.of k3⟩,?_⟩;have e2:M.bind (ev G.F (.cons e .nil) ρ) (λm=>M.bind (M.of (pl m)) λx=>if bare x=true/\xs.length < most then M.ret (O.nx (ρ.set i (some (.fr (xs++[x]))))) else M.no) z=some rr∨∃ c z1,ev G.F e ρ z=some (.er c z1)/\rr=.er c z1:=by
  rcases M.bind_some e1 with ⟨l,z1,e3,e4⟩ | ⟨c,z1,e3,e4⟩
  ·obtain⟨y,hy,e5⟩:=M.a10 e4;obtain⟨s,rfl,hs⟩:=f40 hy;refine .inl ?_;show M.bind (M.bind (ev G.F e ρ) λx=>M.bind (M.of (one x)) λs=>M.bind (ev G.F .nil ρ) λy=>M.ret (s::y)) _ z=some rr;simp only[M.bind,e3,M.of,one,M.ret,ev,hy];exact e5
  ·exact .inr ⟨c,z1,e3,e4⟩
 rcases e2 with e2 | ⟨c,z1,e3,rfl⟩
 ·refine k31 rw.M70 st e2 (po.ers rw) λl z1 e3 vs H1 x1 st1 rvs=>?_;obtain⟨y,hy,e5⟩:=M.a10 e3;obtain⟨s,rfl,hs⟩:=f40 hy;split at e5
  ·rename_i hb;cases e5;obtain⟨u,rfl,ru⟩:=Y11 rvs;have r1:=rw.mono x1;have k3':=x1.at k3 (rw.zne i a k2);have k4':HdA X.K (hw ow (hz zA H1)) xs ys:=k4.same (e00 x1);have hd:=M60 r1.X41 hb.1 (I61 ru hs);refine⟨a,ys,u,rfl,rfl,k3',à (by rw[k4.length];exact hb.2) (g10 (Ì _)),?_⟩
   refine po zA ow σ _ (r1.upd k2 (k4'.append (.cons hd .nil))) ?_ (a40.trans (e00 x1) (v01 k2));exact st1.a30 (rw.zne i a k2) k3'
  ·cases e5
 ·refine⟨zA,ρ,z,.er c z1,rw.M70,st,?_,po.er_ rw⟩;show M.bind (ev G.F e ρ) _ z=_;simp only[M.bind,e3]
theorem I71:F22 X (F82 X.K):=by
 intro pins s σ H x y v u Q I rx ry h;obtain⟨p,xs,i,z,rfl,rfl,hq,he,q⟩:=h;cases rx;obtain⟨t,rfl⟩:=ry;obtain⟨its,r,pl,hz⟩:=I.list hq;obtain⟨j,h1,h2,h3,h4,h5⟩:=W90 he;obtain⟨w,ew,rw'⟩:=r.get h2;have hl:=r.length;have hn:=Q20;by_cases h0:0<=i
 ·have hj:i.toNat=j:=by
   rw[Ü0 h0 h5] at h1;exact À1 h1
  exact wpAny_getItem_list pl.isList h0 ∅ (by rw[hj];simpa using ew) ⟨z,H,I,rw',q⟩
 ·have hj:(i + (its.toArray.size:Int)).toNat=j:=by
   rw[seqIndex_neg ∅ h4] at h1
   rw[Ô,← hl];exact À1 h1
  exact wpAny_getItem_list_neg pl.isList ∅ (by rw[Ô] <;> omega) ∅ (by rw[hj];simpa using ew) ⟨z,H,I,rw',q⟩
theorem m82(x:XS lm X G E N sc cn){i:Nat}{n:Str}{e ix:Ex}{v w:Ð}{p tp pos:Pos}(h1:N[i]?=some n)(h2:c10 n=true)(g:a90 X G E e v)(gi:a90 X G E ix w)(hw':E40 w=true) :
  PS X (.AugAssign (.Subscript (.Name n p) w tp) .Add v pos) (tX X.K G E H0 zE (.augi i ix e)):=by
 unfold c10 at h2;simp only[À,ø] at h2;refine PS.imp (R01 (n80 (i:=i) (by rw[x.hN];exact h1) (x.vis n (é h1)) h2.1 h2.2) gi.pe I71 g.pe e72 set_list (by intros;cases w <;> first | rfl | (cases hw';done))) λD σ H q=>?_
 obtain⟨zA,ow,ρ,z,rr,rw,st,ee,po⟩:=q;obtain⟨xs,hx,e1⟩:=M.a10 ee;obtain⟨w',k1,a,ys,k2,rfl,k3,k4⟩:=rw.wor i _ (P11 hx);refine⟨_,k1,?_⟩;refine k40 rw.M70 st e1 (po.ers rw) λl z1 e2=>?_;obtain⟨j,hj,e3⟩:=M.a10 e2;obtain⟨dj,hj1,hj2⟩:=Î.mp hj;obtain⟨s1,rfl,hs1⟩:=f40 hj1;refine⟨s1,rfl,λu1 H1 x1 st1 rv1=>?_⟩;have hdj:u1=.int j:=by
  have:=I61 rv1 hs1;cases v61 hj2;exact this.h60
 obtain⟨y,hy,e4⟩:=M.a10 e3;have r1:=rw.mono x1;have k3':=x1.at k3 (rw.zne i a k2);have k4a:HdA X.K (hw ow (hz zA H1)) xs ys:=k4.same (e00 x1);obtain⟨b,hb1,hb2⟩:=at_of k4a hy;refine⟨a,ys,j,b,rfl,hdj,SqL.of k3',hb1,?_⟩;refine k40 r1.M70 st1 e4 (po.ers r1) λl2 z2 e5=>?_;obtain⟨dx,hx',e6⟩:=M.a10 e5;obtain⟨s2,rfl,hs2⟩:=f40 hx';refine⟨s2,rfl,λu2 H2 x2 st2 rv2=>?_⟩;obtain⟨nv,hv,e7⟩:=M.a10 e6;obtain⟨xi,hxi,hv⟩:=Î.mp hv;obtain⟨yi,hyi,rfl⟩:=Ë.mp hv;cases v61 hxi;cases v61 hyi;refine⟨yi,xi,hb2.h60,(I61 rv2 hs2).h60,?_⟩;obtain⟨xs2,hx2,e8⟩:=M.a10 e7;cases e8;unfold H90 at hx2;obtain⟨m,hm1,rfl⟩:=Ë.mp hx2;have r2:=r1.mono x2;have k4':HdA X.K (hw ow (hz zA H2)) xs ys:=k4.same (e00 (x1.trans x2));refine⟨a,ys,j,m,rfl,hdj,x2.at k3' (rw.zne i a k2),by rw[k4.length];exact hm1,?_⟩
 exact po zA ow σ _ (r2.upd k2 (k4'.set m Hd.int)) (st2.a30 (rw.zne i a k2) (x2.at k3' (rw.zne i a k2))) (a40.trans (e00 (x1.trans x2)) (v01 k2))
theorem m92(x:XS lm X G E N sc cn){i f:Nat}{as:Ex}{y:Str}{v:Ð}{px pos:Pos}(hi:N[i]?=some y)(hl:z60 sc y=true)(g:a90 X G E (.call f as) v)(hv:T50 v=true) :
  PS X (.Assign [.Name y px] v pos) (tX X.K G E H0 zE (.newz i f as)):=by
 have L:=x.loc;refine PS.imp (b11 (i:=i) (by rw[x.hN];exact x.nd) (by rw[x.hN];exact hi) (L.lc y hl) g.pe (w50 hv _) (L.fn y hl)) λD σ H q=>?_
 obtain⟨zA,ow,ρ,z,rr,rw,st,ee,po⟩:=q;refine k40 rw.M70 st ee (po.ers rw) λl z1 e1=>?_;have e2:s31 zE.isNone ρ i l=some rr:=e1;unfold s31 at e2;split at e2
 ·split at e2
  ·rename_i m b hz';cases e2;have zn:zE=none:=by
    cases zE with
    |none=>rfl|some _=>cases hz'
   subst zn;refine⟨_,rfl,λu H1 x1 st1 rv=>?_⟩;obtain⟨a,ys,rfl,k1,k2,k3,k4⟩:=rv;obtain⟨v1,v2,rfl,h3,h4⟩:=k4.two;cases h3.h60;cases h4.bl_;obtain⟨r1,sm⟩:=rw.O32 (i:=i) x1 k1 k2 k3;exact po (some a) _ _ H1 r1 ⟨k3,st1.tab⟩ sm
  ·cases e2
 ·cases e2
theorem n02(x:XS lm X G E N sc cn){i:Nat}{n:Str}{e:Ex}{v:Ð}{c:Nat}{p q tp pos:Pos}(h1:N[i]?=some n)(h2:c10 n=true)(g:a90 X G E e v) :
  PS X (.Assign [.Subscript (.Name n p) (.Constant (.int 0) c q) tp] v pos) (tX X.K G E H0 zE (.zset i e)):=by
 unfold c10 at h2;simp only[À,ø] at h2;refine PS.imp (M01 g.pe (e32 (n80 (i:=i) (by rw[x.hN];exact h1) (x.vis n (é h1)) h2.1 h2.2) n01 set_list (by intro u;rfl)) (show Ñ4 v (some (.Subscript (.Name n p) (.Constant (.int 0) c q) tp)) pos.line X.env=pure false from T60 rfl) (by cases v <;> rfl)) λD σ H q=>?_
 obtain⟨zA,ow,ρ,z,rr,rw,st,ee,po⟩:=q;refine k40 rw.M70 st ee (po.ers rw) λl z1 e1=>?_;obtain⟨y,hy,e2⟩:=M.a10 e1;obtain⟨dy,hy1,hy2⟩:=Î.mp hy;obtain⟨s,rfl,hs⟩:=f40 hy1;refine⟨s,rfl,λu H1 x1 st1 rv=>?_⟩;have e3:s41 ρ y ρ[i]? z1=some rr:=e2;unfold s41 at e3;split at e3
 ·rename_i p' hsl;cases e3;have r1:=rw.mono x1;obtain⟨w,k1,k2,a,rfl,rfl⟩:=r1.wor i .z hsl;have hu:u=.int y:=by
   have:=I61 rv hs;cases dy <;> first | (cases hy2;exact this.h60) | (cases hy2;done)
  subst hu;have st':H1 a=some (.lst [.int p'.1,.bl p'.2]):=st1.zat;refine⟨_,k1,a,[.int p'.1,.bl p'.2],0,0,rfl,rfl,st',rfl,?_⟩;have x2:Ext (some a) H1 (upd H1 a (.lst [.int y,.bl p'.2])):=by
   refine⟨λb o h=>?_,λb ps h=>⟨ps,by rw[a30 (λz=>by rw[z,st'] at h;cases h)];exact h⟩⟩
   obtain⟨h3,h4⟩:=o70 h;exact d20 (by rw[a30 (λz=>h4 (by rw[z]))];exact h3) h4 (o00 h)
  exact po (some a) ow σ _ (r1.mono x2) ⟨b50,λp hp=>Tab.upd (st1.tab p hp) st'⟩ (a40.trans (e00 x1.same) (e00 x2.same))
 ·cases e3
theorem B92(x:XS lm X G E N sc cn)(g:a90 X G E c ce)(hn:∀ t a b p,ce≠.IfExp t a b p)(hb:PSs X body (tX X.K G E H0 zE b)):PS X (.While ce body [] pos) (tX X.K G E H0 zE (.whl c b)):=by
 refine PS.imp (D11 x.own (g.pt hn) hb) λD σ H q=>?_;obtain⟨zA,ow,ρ,z,rr,rw,st,ee,po⟩:=q;refine⟨λm σ H=>∃ zA ow ρ z r,RW X.K H0 zE zA ow H ρ σ/\e20 zA z H/\N31 (ev G.F c) (ex G.F zE.isNone b) m ρ z=some r/\t30 X.K G E H0 zE (hw ow (hz zA H)) D r,⟨c12,zA,ow,ρ,z,rr,rw,st,ee,po⟩,?_⟩;rintro m σ H ⟨zA,ow,ρ,z,rr,rw,st,ee,po⟩;cases m with
 |zero=>cases ee
 |succ m =>
  refine T00 rw.M70 st ee (po.ers rw) λk z1 e1 H1 x1 st1=>?_;have r1:=rw.mono x1;have sm:a40 (hw ow (hz zA H)) (hw ow (hz zA H1)):=e00 x1;cases k with
  |false =>
   cases e1;exact po zA ow σ H1 r1 st1 sm
  |true =>
   rw[if_pos rfl];have e2:M.bind (ex G.F zE.isNone b ρ) (λo=>match o with | .nx ρ=>N31 (ev G.F c) (ex G.F zE.isNone b) m ρ | .rt s=>M.ret (.rt s)) z1=some rr:=e1
   refine⟨λσ' H'=>∃ zA ow ρ z r,RW X.K H0 zE zA ow H' ρ σ'/\e20 zA z H'/\N31 (ev G.F c) (ex G.F zE.isNone b) m ρ z=some r/\t30 X.K G E H0 zE (hw ow (hz zA H')) D r,λσ' H' h=>⟨m,Ù0 m,h⟩,?_⟩;rcases M.bind_some e2 with ⟨o,z2,e3,e4⟩ | ⟨k,z2,e3,e4⟩
   ·refine⟨zA,ow,ρ,z1,_,r1,st1,e3,?_⟩;cases o with
    |nx ρ1=>exact λzA' ow' σ' H' rw' st' sm'=>⟨zA',ow',ρ1,z2,rr,rw',st',e4,po.mono (a40.trans sm sm')⟩|rt s=>cases e4;exact po
   ·subst e4;exact⟨zA,ow,ρ,z1,_,r1,st1,e3,po⟩
end
section
variable {K:Â}{H0 H H':Hp}{zE zA:Option È}{ow:Nat->Option È}{ρ:Env}{σ:L2.St}
theorem RW.O42(r:RW K H0 zE zA ow H ρ σ):RW K H0 zE zA (ow0 ow i) H (ρ.set i none) (σ.set i (some v)):=by
 have sub:∀ j a,ow0 ow i j=some a->j≠i/\ow j=some a:=λj a e=>by
  unfold ow0 at e;split at e
  ·cases e
  ·rename_i n;exact⟨n,e⟩
 refine⟨by rw[û,û];exact r.len,λj k a h1 h2=>r.inj j k a (sub j a h1).2 (sub k a h2).2,λj a h1=>r.zne j a (sub j a h1).2,λj a h1=>?_,λj s e=>?_,r.ext,r.zok,λj a h1=>r.new j a (sub j a h1).2⟩
 ·obtain⟨n,h2⟩:=sub j a h1;obtain⟨xs,h3⟩:=r.own j a h2;exact⟨xs,by rw[Õ (À6 n)];exact h3⟩
 ·rcases getElem?_set' e with ⟨rfl,e1,hlt⟩ | ⟨n,e1⟩
  ·cases e1
  ·obtain⟨w,h1,h2⟩:=r.wor j s e1;exact⟨w,by rw[Õ (À6 n)];exact h1,h2.move (by unfold ow0;exact if_neg n) (w40 _ _) λ_ _=>rfl⟩
end
section
variable {K:Â}
theorem v81{H:Hp}:∀ {xs:List D}{ys:List V},xs.length=ys.length->(∀ (i:Nat) (d:D) (v:V),xs[i]?=some d->ys[i]?=some v->Hd K H d v)->HdA K H xs ys
 |[],[],_,_=>.nil|[],_::_,h,_=>by simp at h|_::_,[],h,_=>by simp at h|x::xs,y::ys,h,g=>.cons (g 0 x y rfl rfl) (v81 (by simpa using h) λi d v h1 h2=>g (i + 1) d v (by simpa using h1) (by simpa using h2))
theorem e41{H:Hp}:∀ {l:List Int},HdA K H (l.map D.int) (l.map V.int)
 |[]=>.nil|_::_=>.cons Hd.int e41
theorem Y21{zA:Option È}{H Hb H':Hp}{d:È}(hd:H d=none)(x:Ext zA (upd H d (.dK [])) Hb)(old:∀ b u,b≠d->Hb b=some u->H' b=some u):Ext zA H H':=by
 refine⟨λb o e=>?_,λb ps e=>?_⟩
 ·obtain⟨e1,e2⟩:=o70 e;have n:=b10 e1 hd;exact d20 (old b o n (x.at (by rw[a30 n];exact e1) e2 (o00 e))) e2 (o00 e)
 ·have n:=b10 e hd;obtain⟨qs,h⟩:=x.tbl b ps (by rw[a30 n];exact e)
  exact⟨qs,old b _ n h⟩
theorem P21{zA:Option È}{z:Z}{Hb H':Hp}{d:È}{kvs:List (Key × V)}(st:e20 zA z Hb)(hd:Hb d=some (.dK kvs))(old:∀ b u,b≠d->Hb b=some u->H' b=some u):e20 zA z H':=by
 have ne:∀ {b:È}{u:HO},Hb b=some u->(∀ l,u≠.dK l)->H' b=some u:=λ{b u} e n=>old b u (λq=>by rw[q,hd] at e;cases e;exact n _ rfl) e
 refine⟨?_,λp hp=>?_⟩
 ·have:=st.zat;cases zA with
  |none =>
   cases z with
   |none=>trivial|some pr=>exact this.elim
  |some a =>
   cases z with
   |none=>exact this.elim|some pr=>exact ne (show Hb a=some (.lst [.int pr.1,.bl pr.2]) from this) λ_ h=>nomatch h
 ·obtain⟨ps,e,tr,k⟩:=st.tab p hp;refine⟨ps,ne e (λ_ h=>nomatch h),tr,λpos c h=>?_⟩;obtain⟨c',e1,e2⟩:=k pos c h;exact⟨c',e1,ne e2 (λ_ h=>nomatch h)⟩
theorem GI.same{Hb H H':Hp}{d:È}{ts:List GT}(g:GI Hb d ts H)(s:a40 H H'):GI Hb d ts H':=⟨s _ _ g.dic,⟨g.ok.nd,λt ht=>s _ _ (g.ok.at_ t ht)⟩,g.new,λb u n e=>s _ _ (g.old b u n e)⟩
end
theorem v91:í "tuple"=some (.type "tuple"):=by decide +kernel
theorem T70:∀ (l:List Int) (gs:List (Int × List Int)) (p:Nat) (m:Int),s11 gs p (l++[m])=j71 (s11 gs p l) m ((p + l.length:Nat):Int)
 |[],_,_,_=>rfl
 |x::r,gs,p,m=>by
  show s11 (j71 gs x p) (p + 1) (r++[m])=j71 (s11 (j71 gs x p) (p + 1) r) m _;rw[T70 r,Ú,show p + 1 + r.length=p + (r.length + 1) by omega]
theorem ints_map:∀ {l:List D}{ns:List Int},y20 l=some ns->l=ns.map D.int
 |[],_,h=>by cases h;rfl
 |.int i::r,ns,h=>by
  obtain⟨ms,h1,rfl⟩:=Ë.mp (show(y20 r).map (i::·)=some ns from h);rw[ints_map h1];rfl
 |.bl _::_,_,h=>by cases h
 |.non::_,_,h=>by cases h
 |.str _::_,_,h=>by cases h
 |.tup _::_,_,h=>by cases h
 |.lst _::_,_,h=>by cases h
theorem Y31{ds:List D}{s:S}(h:U61 ds=some s):∃ ns:List Int,ds=[.lst (ns.map D.int)]/\ns.length < 1000/\s=.fr (j91 ns):=by
 unfold U61 at h;split at h
 ·split at h
  ·rename_i ns hn;split at h
   ·rename_i hl;cases h;exact⟨ns,by rw[ints_map hn],hl,rfl⟩
   ·cases h
  ·cases h
 ·cases h
theorem w01:∀ {l:List Int}{t n:Nat}{m:Int},l[t]?=some m->(v90 (l.map D.int) n)[t]?=some (.tup [.int ((n + t:Nat):Int),.int m])
 |[],_,_,_,h=>by simp at h|x::r,0,n,m,h=>by cases h;rfl
 |x::r,t + 1,n,m,h=>by
  show(v90 (r.map D.int) (n + 1))[t]?=_;rw[w01 (l:=r) (t:=t) (by simpa using h),show n + 1 + t=n + (t + 1) by omega]
theorem w11:∀ (ts:List GT) (m p:Int) (q:È),(S20 ts m p q).length<=ts.length + 1
 |[],_,_,_=>Ì _
 |t::r,m,p,q=>by
  unfold S20;split
  ·exact le_succ _
  ·rw[Ú,Ú];exact É8 (w11 r m p q)
theorem P31{c:Nat}:∀ {ts:List GT}{m p:Int}{q:È},(∀ t∈ts,t.2.1.length<=c)->∀ t∈S20 ts m p q,t.2.1.length<=c + 1
 |[],m,p,q,_,t,ht=>by
  have e:t=(m,[p],q):=by simpa [S20] using ht
  subst e;exact Nat.le_add_left 1 c
 |u::r,m,p,q,h,t,ht=>by
  unfold S20 at ht;split at ht
  ·rcases ß.mp ht with rfl | ht
   ·show(u.2.1++[p]).length<=_;rw[À0];exact É8 (h u É)
   ·exact Ö3 (h t (Å _ ht))
  ·rcases ß.mp ht with rfl | ht
   ·exact Ö3 (h _ É)
   ·exact P31 (λt ht=>h t (Å _ ht)) t ht
section
variable {lm:Bool}{X:Cx}{G:Gs}{E:XK}{N:List Str}{sc:Á3}{cn:List Str}{H0:Hp}{zE:Option È}
theorem C02(x:XS lm X G E N sc cn){i j k:Nat}{y a b g:Str}{csc:Á3}{src:Ex}{se:Ð}{p1 p2 p3 p4 p5 p6 p7 p8 p9 q1 q2 q3 q4 q5 q6 q7 q8 q9 r1 r2 r3 r4 r5 r6 r7 r8 r9:Pos}{ek:Nat}
  (hi:N[i]?=some y) (hj:N[j]?=some a) (hk:N[k]?=some b) (ly:z60 sc y=true) (la:z60 sc a=true) (lb:z60 sc b=true) (ny:c10 y=true) (na:c10 a=true) (nb:c10 b=true) (ng:c10 g=true)
  (hij:i≠j) (hik:i≠k) (hjk:j≠k) (he:glob sc "enumerate"=true) (ht:glob csc "tuple"=true) (ge:Good X G E (.cons src .nil) [se]) (cc:c52 csc sc N [g] [])
  (l1:(q1.endLine == q2.line)=true) (l2:(q3.endLine == q4.line)=true) (l3:(q5.endLine == q6.line)=true) :
  PSs X [.Assign [.Name y p1] (.Dict [] [] p2) p3,.For (.Tuple [.Name a p4,.Name b p5] ek p6) (.Call (.Name "enumerate" p7) [se] [] p8) [.Expr (.Call (.Attribute (.Call (.Attribute (.Name y p9) "setdefault" q1) [.Name b q7,.List [] q8] [] q2) "append" q3) [.Name a q9] [] q4) r1] [] r2,
   .Return (some (.ListComp (.Call (.Name "tuple" r3) [.Name g r4] [] r5) [⟨.Name g r6,.Call (.Attribute (.Name y r7) "values" q5) [] [] q6,[],0⟩] csc r8)) r9]
   (tX X.K G E H0 zE (.grp i j k src)):=by
 unfold c10 at ny na nb ng;simp only[À,ø] at ny na nb ng;have Lc:=x.loc;obtain⟨k1,k2,k3⟩:=d90 ht;have hp:i10 N (z60 sc) (.tup (.cons (.v j) (.cons (.v k) .nil))) (.Tuple [.Name a p4,.Name b p5] ek p6)=true:=by
  simp[i10,d31,noStar,hj,hk,la,lb]
 refine PSs.imp (I90 (b11 (by rw[x.hN];exact x.nd) (by rw[x.hN];exact hi) (Lc.lc y ly) q61 rfl (Lc.fn y ly))
  (I90 (n71 x.own x.calm (M30 x.toXI rfl rfl he rfl ge) (k51 x.loc hp)
   (n11 (W70 (R91 Û0 Ú2 Ú1 R50
    (R91 Û1 Ö1 PySem.F.type_dict_setdefault U11 (n80 (i:=i) (by rw[x.hN];exact hi) (x.vis y (é hi)) ny.1 ny.2)
     (g70 (n80 (i:=k) (by rw[x.hN];exact hk) (x.vis b (é hk)) nb.1 nb.2) (g70 (M31 v00) v00)) rfl rfl l1 rfl rfl)
    (g70 (n80 (i:=j) (by rw[x.hN];exact hj) (x.vis a (é hj)) na.1 na.2) v00) rfl rfl l2 rfl rfl) (w50 rfl none))) (λ_=>rfl))
  (n11 (n21 (p41 (te:=G52 X.K 0) x.calm (u61 x.toXI cc) (U31 (n80 (i:=i) (by rw[x.hN];exact hi) (x.vis y (é hi)) ny.1 ny.2) l3)
   (λcl C s H fp=>n31 (i:=0) (x:=g) (by simp[d70]) rfl ((M50 x.toXI cc cl C s H fp).lc g (by simp)) ((M50 x.toXI cc cl C s H fp).fn g (by simp)))
   (λcl C s H fp=>p31)
   (λcl C s H fp=>R00 (T:="tuple") v40 ((M40 x.toXI cc cl C s H fp).glb _ k1) (x.blt _ (-0)) v91 (g70 (n80 (i:=0) (x:=g) (by simp[d70]) ((M40 x.toXI cc cl C s H fp).vis g (by simp)) ng.1 ng.2) v00))
   (λ_=>rfl)))))) λD σ H q=>?_
 obtain⟨zA,ow,ρ,z,rr,rw,st,ee,po⟩:=q;have e0:(if i < ρ.length/\j < ρ.length/\k < ρ.length then M.bind (ev G.F (.cons src .nil) (ρ.set i none)) (λl=>M.bind (M.of ((plA l).bind U61)) λs=>M.ret (.rt s)) else M.no) z=some rr:=ee;by_cases il:i < ρ.length/\j < ρ.length/\k < ρ.length
 rotate_left
 ·rw[if_neg il] at e0;cases e0
 rw[if_pos il] at e0;refine λd hd=>?_;have s0:a40 H (upd H d (.dK [])):=a40.new _ hd;have rw1:=(rw.mono (Ext.of s0)).O42 (i:=i) (v:=.ref d);have st1:=st.same s0;have dz:zA≠some d:=st.c81 hd;have hil:i < σ.length:=by rw[← rw.len];exact il.1
 have hjl:j < σ.length:=by rw[← rw.len];exact il.2.1
 have hkl:k < σ.length:=by rw[← rw.len];exact il.2.2
 rcases M.bind_some e0 with ⟨l,z1,e1,e2⟩ | ⟨c,z1,e1,e2⟩
 rotate_left
 ·subst e2;exact⟨zA,_,z,_,rw1.M70,st1,e1,po.er_ rw1⟩
 obtain⟨s,hs,e3⟩:=M.a10 e2;cases e3;obtain⟨ds,h1,h2⟩:=Î.mp hs;obtain⟨ns,rfl,nl,rfl⟩:=Y31 h2;refine⟨zA,_,z,_,rw1.M70,st1,e1,v90 (ns.map L2.D.int) 0,by rw[h1];rfl,λJ Hb x1 stb IT=>?_⟩
 have hbd:Hb d=some (.dK []):=x1.at b50 dz;have hzd:hz zA Hb d=some (.dK []):=d20 hbd dz;have IB:=IT (λy=>∃ n,y=.int n) (hide d (hz zA Hb)) (d80 _ _) (λa' ys h=>by
   rcases h with (h | ⟨o,h⟩) | h
   ·exact .inl (.inl (m80 h λz=>by rw[z,hzd] at h;cases h))
   ·exact .inl (.inr ⟨o,m80 h λz=>by rw[z,hzd] at h;cases h⟩)
   ·exact .inr h) (λd' v ⟨n,e⟩ h=>by subst e;rw[h.h60];exact Hd.int) (λds' e' d' hd'=>by
   rw[h1] at e';cases e';have e:d'=.lst (ns.map L2.D.int):=by simpa using hd'
   subst e;exact λy hy=>by obtain⟨n,_,e⟩:=Ø.mp hy;exact⟨n,e.symm⟩) (λa' ys h _=>by
   rcases h with (h | ⟨o,h⟩) | h
   ·exact .inl (.inl (m80 h λz=>by rw[z,hzd] at h;cases h))
   ·exact .inl (.inr ⟨o,m80 h λz=>by rw[z,hzd] at h;cases h⟩)
   ·exact .inr h)
 refine⟨λt m σ' H'=>m=ns.length - t/\t<=ns.length/\σ'[i]?=some (some (.ref d))/\σ'.length=σ.length/\∃ ts,GI Hb d ts H'/\gsT ts=s11 [] 0 (ns.take t)/\ts.length<=t/\∀ u∈ts,u.2.1.length<=t,
  ⟨_,rfl,Å4 _,Ý hil,û,[],⟨hbd,⟨List.nodup_nil,λ_ h=>nomatch h⟩,λ_ h=>(nomatch h),λb u n e=>e⟩,rfl,Ì _,λ_ h=>nomatch h⟩,?_⟩
 rintro t m σ' H' ⟨rfl,tn,hs1,hs2,ts,gi,gs,tl,tb⟩;have sB:a40 (hide d (hz zA Hb)) (hz zA H'):=λb o e=>by
  have n:b≠d:=λz=>by rw[z] at e;unfold hide at e;rw[if_pos rfl] at e;cases e
  have e':=d80 _ _ b o e;obtain⟨e1,e2⟩:=o70 e';exact d20 (gi.old b o n e1) e2 (o00 e')
 have stH:e20 zA z1 H':=P21 stb hbd gi.old;have big:1000<=sizeLine:=by rw[Á4];decide
 by_cases e:t=ns.length
 ·subst e;refine .inl ⟨by have:=IB.stop H' (a40.trans sB (a20 zA H'));rw[w30,Ç] at this;exact this,?_⟩
  refine⟨d,kvG ts,hs1,gi.dic,λo H2 hk2 hd2=>?_⟩;have nd:∀ u∈ts,u.2.2≠d:=λu hu q=>by have:=gi.ok.at_ u hu;rw[q,gi.dic] at this;cases this
  refine U51 (by show 0 < 1;decide) ∅ ⟨hd2,⟨gi.ok.nd,λu hu=>hk2 _ _ (nd u hu) (gi.ok.at_ u hu)⟩,λb u n e=>hk2 b u n (gi.old b u n e),rfl,λ_ _ h=>nomatch h⟩ λys H3 p ge3 hp3=>?_
  have x3:Ext zA H H3:=Y21 hd x1 ge3.old;have st3:e20 zA z1 H3:=P21 stb hbd ge3.old;have gd:j91 ns=ts.map λu=>.tup (u.2.1.map L2.D.int):=by
   unfold j91;rw[List.take_length] at gs;rw[← gs];unfold gsT;rw[ô];rfl
  have hda:HdA X.K (hz zA H3) (j91 ns) ys:=by
   rw[gd];refine v81 (by rw[Ç,ge3.len]) λn d' v q1 q2=>?_
   obtain⟨a',u,rfl,q3,q4⟩:=ge3.tup n v q2;rw[Ö,q3] at q1;cases q1;exact Hd.tup (st3.N41 (SqT.of q4)) e41
  have x4:=x3.trans (Ext.of (a40.new (.lst ys) hp3));exact po _ _ (λh=>nomatch h) (e21 rw.ext rw.zok x4) (X51 rw.zok (st3.same (a40.new _ hp3))) (rw.out (λh=>nomatch h) x4 ((s30 st3 hda hp3).from x3))
 ·have hlt:t < ns.length:=Nat.lt_of_le_of_ne tn e;refine .inr ⟨IB.go t H' (a40.trans sB (a20 zA H')) (by rw[w30,Ç];exact hlt),λσ2 H2=>σ2[i]?=some (some (.ref d))/\σ2.length=σ.length/\∃ ts,GI Hb d ts H2/\gsT ts=s11 [] 0 (ns.take (t + 1))/\ts.length<=t + 1/\∀ u∈ts,u.2.1.length<=t + 1,λσ2 H2 q=>⟨ns.length - (t + 1),by omega,rfl,hlt,q⟩,λx' H'' y'=>?_⟩
  obtain⟨s1,hdx⟩:=IB.yld t H' x' H'' zA z1 _ sB stH y' (w01 (Ò hlt));obtain⟨T,us,rfl,m1,m2⟩:=(hdx (hz zA H'') (a40.trans sB (j00 s1)) λ_ _ q=>q).B40;obtain⟨u1,r,rfl,w1,w2⟩:=m2.c00;obtain⟨u2,rfl,w3⟩:=w2.one;have f1:=w1.h60;have f2:=w3.h60;subst f1 f2;refine⟨T,_,rfl,(a20 zA H'').sqT m1,rfl,_,_,rfl,_,_,rfl,rfl,?_⟩;have jl:j < σ'.length:=by rw[hs2];exact hjl
  have kl:k < σ'.length:=by rw[hs2];exact hkl
  refine U41 (GI.same gi s1) (by rw[Õ (À6 hik),Õ (À6 hij)];exact hs1) (by rw[Õ (À6 hjk),Ý jl]) (by rw[Ý (by rw[û];exact kl)]) ∅ (λu hu=>by have:=tb u hu;omega) λq H3 g3=>?_
  refine⟨by rw[Õ (À6 hik),Õ (À6 hij)];exact hs1,by rw[û,û];exact hs2,_,g3,?_,Ù (w11 _ _ _ _) (É8 tl),P31 tb⟩
  rw[N21,gs,List.take_succ_eq_append_getElem hlt,T70,Á7,Ë7 tn]
def O52:(s:Ã9)->Option {u:Str × Pos × Pos × Pos // s=.Assign [.Name u.1 u.2.1] (.Dict [] [] u.2.2.1) u.2.2.2}
 |.Assign [.Name y p] (.Dict [] [] q) r=>some ⟨(y,p,q,r),rfl⟩|_=>none
def O62:(s:Ã9)->Option {u:Str × Pos × Str × Pos × Nat × Pos × Ð × Ã9 × Pos // s=.For (.Tuple [.Name u.1 u.2.1,.Name u.2.2.1 u.2.2.2.1] u.2.2.2.2.1 u.2.2.2.2.2.1) u.2.2.2.2.2.2.1 [u.2.2.2.2.2.2.2.1] [] u.2.2.2.2.2.2.2.2}
 |.For (.Tuple [.Name a p,.Name b q] k r) it [s] [] f=>some ⟨(a,p,b,q,k,r,it,s,f),rfl⟩|_=>none
def H42:(e:Ð)->Option {u:Str × Pos × Ð × Pos // e=.Call (.Name u.1 u.2.1) [u.2.2.1] [] u.2.2.2}
 |.Call (.Name n p) [v] [] q=>some ⟨(n,p,v,q),rfl⟩|_=>none
def O72:(s:Ã9)->Option {u:Ð × Str × Pos × Str × Pos × Pos × Pos // s=.Expr (.Call (.Attribute u.1 u.2.1 u.2.2.1) [.Name u.2.2.2.1 u.2.2.2.2.1] [] u.2.2.2.2.2.1) u.2.2.2.2.2.2}
 |.Expr (.Call (.Attribute o n p) [.Name a q] [] r) f=>some ⟨(o,n,p,a,q,r,f),rfl⟩|_=>none
def O82:(e:Ð)->Option {u:Str × Pos × Str × Pos × Str × Pos × Pos × Pos // e=.Call (.Attribute (.Name u.1 u.2.1) u.2.2.1 u.2.2.2.1) [.Name u.2.2.2.2.1 u.2.2.2.2.2.1,.List [] u.2.2.2.2.2.2.1] [] u.2.2.2.2.2.2.2}
 |.Call (.Attribute (.Name y p) n q) [.Name b r,.List [] f] [] g=>some ⟨(y,p,n,q,b,r,f,g),rfl⟩|_=>none
def O92:(s:Ã9)->Option {u:Ð × Str × Pos × Ð × Á3 × Pos × Pos // s=.Return (some (.ListComp u.1 [⟨.Name u.2.1 u.2.2.1,u.2.2.2.1,[],0⟩] u.2.2.2.2.1 u.2.2.2.2.2.1)) u.2.2.2.2.2.2}
 |.Return (some (.ListComp e [⟨.Name g p,it,[],0⟩] c q)) r=>some ⟨(e,g,p,it,c,q,r),rfl⟩|_=>none
def P02:(e:Ð)->Option {u:Str × Pos × Str × Pos × Pos // e=.Call (.Attribute (.Name u.1 u.2.1) u.2.2.1 u.2.2.2.1) [] [] u.2.2.2.2}
 |.Call (.Attribute (.Name y p) n q) [] [] r=>some ⟨(y,p,n,q,r),rfl⟩|_=>none
def P12:(e:Ð)->Option {u:Str × Pos // e=.Name u.1 u.2}
 |.Name y p=>some ⟨(y,p),rfl⟩|_=>none
def P22:(ss:List Ã9)->Option {u:Ã9 × Ã9 × Ã9 // ss=[u.1,u.2.1,u.2.2]}
 |[a,b,c]=>some ⟨(a,b,c),rfl⟩|_=>none
def H52(lm:Bool)(fns:List (Str × List Str))(nums:List (Str × Int))(sc:Á3)(N:List Str)(i j k:Nat)(src:Ex)(ss:List Ã9):Bool:=opt (P22 ss) λt=>opt (O52 t.1.1) λd=>opt (O62 t.1.2.1) λf=>opt (H42 f.1.2.2.2.2.2.2.1) λn=>opt (O72 f.1.2.2.2.2.2.2.2.1) λb=>opt (O82 b.1.1) λs=>opt (O92 t.1.2.2) λr=>opt (P02 r.1.2.2.2.1) λv=>opt (H42 r.1.1) λe=>opt (P12 e.1.2.2.1) λg =>
 N[i]? == some d.1.1&&N[j]? == some f.1.1&&N[k]? == some f.1.2.2.1&&z60 sc d.1.1&&z60 sc f.1.1&&z60 sc f.1.2.2.1&&c10 d.1.1&&c10 f.1.1&&c10 f.1.2.2.1&&c10 g.1.1&&i != j&&i != k&&j != k&&glob sc "enumerate"&&glob r.1.2.2.2.2.1 "tuple"&&mt lm fns nums (.cons src .nil) sc N [n.1.2.2.1]&&T10 r.1.2.2.2.2.1 sc N [g.1.1] [] &&
 s.1.2.2.2.1.endLine == s.1.2.2.2.2.2.2.2.line&&b.1.2.2.1.endLine == b.1.2.2.2.2.2.1.line&&v.1.2.2.2.1.endLine == v.1.2.2.2.2.line&&s.1.1 == d.1.1&&v.1.1 == d.1.1&&b.1.2.2.2.1 == f.1.1&&s.1.2.2.2.2.1 == f.1.2.2.1&&r.1.2.1 == g.1.1&&n.1.1 == ("enumerate":Str)&&s.1.2.2.1 == ("setdefault":Str)&&b.1.2.1 == ("append":Str)&&e.1.1 == ("tuple":Str)&&v.1.2.2.1 == ("values":Str)
theorem C12(x:XS lm X G E N sc cn){i j k:Nat}{src:Ex}{ss:List Ã9}(h:H52 lm G.fns G.nums sc N i j k src ss=true):PSs X ss (tX X.K G E H0 zE (.grp i j k src)):=by
 obtain⟨⟨⟨s1,s2,s3⟩,rfl⟩,-,h⟩:=a50 h;dsimp only at h;obtain⟨⟨⟨y,p1,p2,p3⟩,rfl⟩,-,h⟩:=a50 h;obtain⟨⟨⟨a,p4,b,p5,ek,p6,it,st,r2⟩,rfl⟩,-,h⟩:=a50 h;dsimp only at h;obtain⟨⟨⟨en,p7,se,p8⟩,rfl⟩,-,h⟩:=a50 h;obtain⟨⟨⟨o,ap,q3,a2,q9,q4,r1⟩,rfl⟩,-,h⟩:=a50 h;dsimp only at h;obtain⟨⟨⟨y2,p9,sd,q1,b2,q7,q8,q2⟩,rfl⟩,-,h⟩:=a50 h;obtain⟨⟨⟨el,g2,r6,iv,csc,r8,r9⟩,rfl⟩,-,h⟩:=a50 h;dsimp only at h;obtain⟨⟨⟨y3,r7,va,q5,q6⟩,rfl⟩,-,h⟩:=a50 h;obtain⟨⟨⟨tu,r3,ev',r5⟩,rfl⟩,-,h⟩:=a50 h;dsimp only at h;obtain⟨⟨⟨g,r4⟩,rfl⟩,-,h⟩:=a50 h;dsimp only at h;rw[À] at h;obtain⟨h,h30⟩:=h;rw[À] at h;obtain⟨h,h29⟩:=h;rw[À] at h;obtain⟨h,h28⟩:=h;rw[À] at h;obtain⟨h,h27⟩:=h;rw[À] at h;obtain⟨h,h26⟩:=h;rw[À] at h;obtain⟨h,h25⟩:=h;rw[À] at h;obtain⟨h,h24⟩:=h;rw[À] at h;obtain⟨h,h23⟩:=h;rw[À] at h;obtain⟨h,h22⟩:=h;rw[À] at h;obtain⟨h,h21⟩:=h;rw[À] at h;obtain⟨h,h20⟩:=h;rw[À] at h;obtain⟨h,h19⟩:=h;rw[À] at h;obtain⟨h,h18⟩:=h;rw[À] at h;obtain⟨h,h17⟩:=h;rw[À] at h;obtain⟨h,h16⟩:=h;rw[À] at h;obtain⟨h,h15⟩:=h;rw[À] at h;obtain⟨h,h14⟩:=h;rw[À] at h;obtain⟨h,h13⟩:=h;rw[À] at h;obtain⟨h,h12⟩:=h;rw[À] at h;obtain⟨h,h11⟩:=h;rw[À] at h;obtain⟨h,h10⟩:=h;rw[À] at h;obtain⟨h,h9⟩:=h;rw[À] at h;obtain⟨h,h8⟩:=h;rw[À] at h;obtain⟨h,h7⟩:=h;rw[À] at h;obtain⟨h,h6⟩:=h;rw[À] at h;obtain⟨h,h5⟩:=h;rw[À] at h;obtain⟨h,h4⟩:=h;rw[À] at h;obtain⟨h,h3⟩:=h;rw[À] at h;obtain⟨h1,h2⟩:=h;rw[beq_iff_eq] at h1 h2 h3;rw[bne_iff_ne] at h11 h12 h13;obtain rfl:y=y2:=(eq_of_beq h21).symm;obtain rfl:y=y3:=(eq_of_beq h22).symm;obtain rfl:a=a2:=(eq_of_beq h23).symm;obtain rfl:b=b2:=(eq_of_beq h24).symm;obtain rfl:g=g2:=(eq_of_beq h25).symm;obtain rfl:en="enumerate":=eq_of_beq h26;obtain rfl:sd="setdefault":=eq_of_beq h27;obtain rfl:ap="append":=eq_of_beq h28;obtain rfl:tu="tuple":=eq_of_beq h29;obtain rfl:va="values":=eq_of_beq h30;exact C02 x h1 h2 h3 h4 h5 h6 h7 h8 h9 h10 h11 h12 h13 h14 h15 (sound G (.cons src .nil) x.toXI h16) (m32 h17) h18 h19 h20
def C22(K:Â)(i:Nat):TI:=λσ H R=>∃ a,σ[i]?=some (some (.ref a))/\((∃ ys,SqT K H a ys)/\R (Itt K a) H∨(∃ ys,SqL K H a ys)/\R (Itl K a) H)
theorem n12(x:XI lm X G E N sc){tg:Ð}{i:Nat}{n:Str}{pos:Pos}(h1:N[i]?=some n)(h2:c10 n=true):PI X tg (.Name n pos) (C22 X.K i):=by
 unfold c10 at h2;simp only[À,ø] at h2;have hv:PE X (.Name n pos) (Q41 i):=n80 (i:=i) (by rw[x.hN];exact h1) (x.vis n (é h1)) h2.1 h2.2
 intro pins s σ H R I q;obtain⟨a,k,q | q⟩:=q
 ·exact M11 hv pins s σ H R I ⟨_,k,a,rfl,q.1,q.2⟩
 ·exact W80 hv pins s σ H R I ⟨_,k,a,rfl,q.1,q.2⟩
def fBody(F:FT)(tp:Bool)(p:Pat)(b:Sm):D->Env->M O:=λx ρ=>M.bind (M.of (e90 p x ρ)) λρ=>ex F tp b ρ
theorem E80:∀ {l:List D}{d:D},k20 l=true->d∈l->bare d=true
 |x::r,d,h,hd=>by
  simp only[k20,À] at h;rcases ß.mp hd with rfl | hd
  ·exact h.1
  ·exact E80 h.2 hd
theorem e51{p:Pat}{b:Sm}{J:L2.It}{xs:List D}{B:Hp}{D:Ends}{σ:L2.St}{H:Hp}{zA:Option È}{ow:Nat->Option È}{ρ:Env}{z:Z}{rr:R O}(IT:ItB X.K J xs B)
  (rw:RW X.K H0 zE zA ow H ρ σ) (st:e20 zA z H) (sm:a40 B (hw ow (hz zA H))) (ee:W30 (fBody G.F zE.isNone p b) xs ρ z=some rr) (po:t30 X.K G E H0 zE (hw ow (hz zA H)) D rr) :
  ∃ W:Nat->Nat->L2.St->Hp->Prop,(∃ m,W 0 m σ H)/\∀ i m σ H,W i m σ H ->
   (J.stop i H/\D.nx σ H)∨(J.go i H/\∃ Nn:L2.St->Hp->Prop,(∀ σ' H',Nn σ' H'->∃ m',m' < m/\W (i + 1) m' σ' H')/\∀ x H',J.yld i H x H'->gP X.K p x σ H' λσ2 H2=>tX X.K G E H0 zE b { D with nx:=Nn,ct:=Nn,bk:=D.nx } σ2 H2):=by
 refine⟨λi m σ H=>m=xs.length - i/\i<=xs.length/\∃ zA ow ρ z r,RW X.K H0 zE zA ow H ρ σ/\e20 zA z H/\a40 B (hw ow (hz zA H))/\W30 (fBody G.F zE.isNone p b) (xs.drop i) ρ z=some r/\t30 X.K G E H0 zE (hw ow (hz zA H)) D r,
  ⟨xs.length,by simp,Å4 _,zA,ow,ρ,z,rr,rw,st,sm,by simpa using ee,po⟩,?_⟩
 rintro i m σ H ⟨rfl,hi,zA,ow,ρ,z,rr,rw,st,sm,ee,po⟩;have sH:a40 B H:=a40.trans sm (a40.trans l10 (a20 zA H));by_cases hlt:i < xs.length
 ·refine .inr ⟨IT.go i H sH hlt,λσ' H'=>∃ zA ow ρ z r,RW X.K H0 zE zA ow H' ρ σ'/\e20 zA z H'/\a40 B (hw ow (hz zA H'))/\W30 (fBody G.F zE.isNone p b) (xs.drop (i + 1)) ρ z=some r/\t30 X.K G E H0 zE (hw ow (hz zA H')) D r,
   λσ' H' h=>⟨xs.length - (i + 1),by omega,rfl,hlt,h⟩,λx H' y=>?_⟩
  have hd0:xs[i]?=some xs[i]:=Ò hlt;obtain⟨s1,hd⟩:=IT.yld i H x H' zA z _ (a40.trans sm l10) st y hd0;rw[Ä8 hlt] at ee;have e0:M.bind (fBody G.F zE.isNone p b xs[i] ρ) (λo=>match o with | .nx ρ=>W30 (fBody G.F zE.isNone p b) (xs.drop (i + 1)) ρ | .rt s=>M.ret (.rt s)) z=some rr:=ee
  have r1:=rw.mono (Ext.of s1);have st1:=st.same s1;have sm1:a40 (hw ow (hz zA H)) (hw ow (hz zA H')):=e00 (j00 s1);have hd1:=hd (hw ow (hz zA H')) (a40.trans sm sm1) λ_ _ q=>u91 q r1.X41;have fin:∀ {ρ1:Env}{o:O}{z1:Z},e90 p xs[i] ρ=some ρ1->ex G.F zE.isNone b ρ1 z=some (.ok o z1)->(match o with | .nx ρ=>W30 (fBody G.F zE.isNone p b) (xs.drop (i + 1)) ρ | .rt s=>M.ret (.rt s)) z1=some rr->gP X.K p x σ H' λσ2 H2=>tX X.K G E H0 zE b { D with nx:=λσ' H'=>∃ zA ow ρ z r,RW X.K H0 zE zA ow H' ρ σ'/\e20 zA z H'/\a40 B (hw ow (hz zA H'))/\W30 (fBody G.F zE.isNone p b) (xs.drop (i + 1)) ρ z=some r/\t30 X.K G E H0 zE (hw ow (hz zA H')) D r,ct:=λσ' H'=>∃ zA ow ρ z r,RW X.K H0 zE zA ow H' ρ σ'/\e20 zA z H'/\a40 B (hw ow (hz zA H'))/\W30 (fBody G.F zE.isNone p b) (xs.drop (i + 1)) ρ z=some r/\t30 X.K G E H0 zE (hw ow (hz zA H')) D r,bk:=D.nx } σ2 H2:=λ{ρ1 o z1} hbp e1 e2=>by
   refine I31 hbp r1 hd1 λow' σ' r2 sm2=>⟨zA,ow',ρ1,z,_,r2,st1,e1,?_⟩;cases o with
   |nx ρ2=>exact λzA3 ow3 σ3 H3 r3 st3 sm3=>⟨zA3,ow3,ρ2,z1,rr,r3,st3,a40.trans sm (a40.trans sm1 (a40.trans sm2 sm3)),e2,po.mono (a40.trans sm1 (a40.trans sm2 sm3))⟩|rt s=>cases e2;exact po
  rcases M.bind_some e0 with ⟨o,z1,e1,e2⟩ | ⟨c,z1,e1,e2⟩
  ·obtain⟨ρ1,hbp,e3⟩:=M.a10 e1;exact fin hbp e3 e2
  ·subst e2;obtain⟨ρ1,hbp,e3⟩:=M.a10 e1;exact I31 hbp r1 hd1 λow' σ' r2 sm2=>⟨zA,ow',ρ1,z,_,r2,st1,e3,po⟩
 ·have e:i=xs.length:=by omega
  subst e;rw[drop_length] at ee;cases ee;exact .inl ⟨IT.stop H sH,po zA ow σ H rw st (a40.refl _)⟩
theorem n22(x:XS lm X G E N sc cn){p:Pat}{i:Nat}{n:Str}{b:Sm}{tg:Ð}{body:List Ã9}{np pos:Pos}(hp:i10 N (z60 sc) p tg=true)(h1:N[i]?=some n)(h2:c10 n=true)(hb:PSs X body (tX X.K G E H0 zE b)) :
  PS X (.For tg (.Name n np) body [] pos) (tX X.K G E H0 zE (.fr p .seq (.cons (.var i) .nil) b)):=by
 refine PS.imp (n71 x.own x.calm (n12 x.toXI h1 h2) (k51 x.loc hp) hb (λ_=>rfl)) λD σ H q=>?_;obtain⟨zA,ow,ρ,z,rr,rw,st,ee,po⟩:=q;have e0:M.bind (M.bind (match ρ[i]? with | some (some s)=>M.ret [plS s] | _=>M.no) λx=>M.bind (M.of (one x)) λs=>M.bind (ev G.F .nil ρ) λy=>M.ret (s::y)) (λl=>M.bind (M.of ((plA l).bind (itD .seq))) λxs=>W30 (fBody G.F zE.isNone p b) xs (s21 .seq (.cons (.var i) .nil) l ρ)) z=some rr:=ee
 cases hs:ρ[i]? with
 |none=>rw[hs] at e0;cases e0
 |some o =>
  cases o with
  |none=>rw[hs] at e0;cases e0
  |some s =>
   rw[hs] at e0;have e1:M.bind (M.of ((plA [plS s]).bind (itD .seq))) (λxs=>W30 (fBody G.F zE.isNone p b) xs ((ρ.set i ((ρ[i]?.getD none).map plS)).map (L20 (S50 [plS s])))) z=some rr:=e0;obtain⟨xs,hx,e2⟩:=M.a10 e1;have r1:=rw.plain i;have sm:=w40 (H:=hz zA H) ow i;have hi:i < ρ.length:=(ä.mp hs).1;have hsl:(ρ.set i ((ρ[i]?.getD none).map plS))[i]?=some (some (plS s)):=by rw[Ý hi,hs];rfl
   obtain⟨w,k1,k2⟩:=r1.wor i _ hsl;obtain⟨ds,h3,h4⟩:=Î.mp hx;obtain⟨d,rfl,h5⟩:=u01 h3;have hd:Hd X.K (hw (ow0 ow i) (hz zA H)) d w:=by
    cases s with
    |d y=>cases h5;exact k2.2
    |fr ys=>cases h5;exact k2.2
    |_=>cases h5
   obtain⟨ow',r2,sm2⟩:∃ ow',RW X.K H0 zE zA ow' H ((ρ.set i ((ρ[i]?.getD none).map plS)).map (L20 (S50 [plS s]))) σ/\a40 (hw (ow0 ow i) (hz zA H)) (hw ow' (hz zA H)):=by
    rw[S40];cases S50 [plS s] with
    |true=>exact⟨_,r1,a40.refl _⟩|false=>exact⟨_,r1.X80,E70 _⟩
   cases d with
   |tup l =>
    cases h4;obtain⟨a,ys,rfl,m1,m2⟩:=hd.B40;exact⟨a,k1,.inl ⟨⟨ys,(a20 zA H).sqT (a40.sqT l10 m1)⟩,e51 (t71 m1 m2) r2 st sm2 e2 (po.mono (a40.trans sm sm2))⟩⟩
   |lst l =>
    cases h4;obtain⟨a,ys,rfl,m1,m2⟩:=hd.c61;exact⟨a,k1,.inr ⟨⟨ys,((m1.same l10).same (a20 zA H)).sq⟩,e51 (d81 m1 m2) r2 st sm2 e2 (po.mono (a40.trans sm sm2))⟩⟩
   |_=>cases h4
theorem C32(x:XS lm X G E N sc cn){p:Pat}{it:It}{src:Ex}{b:Sm}{tg iter:Ð}{body:List Ã9}{pos:Pos}(hp:i10 N (z60 sc) p tg=true)(hi:PI X tg iter (tIt X.K G E it src))(hns:A90 iter=true)(hv:U81 it src=none)(hb:PSs X body (tX X.K G E H0 zE b)) :
  PS X (.For tg iter body [] pos) (tX X.K G E H0 zE (.fr p it src b)):=by
 refine PS.imp (n71 x.own x.calm hi (k51 x.loc hp) hb (u71 hns X.env)) λD σ H q=>?_;obtain⟨zA,ow,ρ,z,rr,rw,st,ee,po⟩:=q;have e0:M.bind (ev G.F src ρ) (λl=>M.bind (M.of ((plA l).bind (itD it))) λxs=>W30 (fBody G.F zE.isNone p b) xs ((S60 it src l ρ).map (L20 (S50 l)))) z=some rr:=ee;rcases M.bind_some e0 with ⟨l,z1,e1,e2⟩ | ⟨c,z1,e1,e2⟩
 ·obtain⟨xs,hx,e3⟩:=M.a10 e2;refine⟨zA,ρ,z,_,rw.M70,st,e1,xs,hx,λJ H1 x1 st1 IT=>?_⟩;have r1:=rw.mono x1;have frz:W30 (fBody G.F zE.isNone p b) xs (X80 ρ) z1=some rr->_:=λe3=>e51 (G:=G) (E:=E) (D:=D) (IT (λ_=>True) (hz zA H1) (a40.refl _) (λ_ _ q=>q) (λ_ _ _ q=>q) (λds hds d hd=>by cases d <;> first | trivial | exact λ_ _=>trivial) λ_ _ q _=>q) r1.X80 st1 (by rw[y40];exact a40.refl _) e3 (po.mono (a40.trans (e00 x1) (E70 ow)))
  rw[S40] at e3;have he:S60 it src l ρ=match k11 l with | true=>X80 ρ | false=>ρ:=by
   unfold S60;rw[hv] <;> cases k11 l <;> rfl
  have tt:X80 (X80 ρ)=X80 ρ:=by
   unfold X80;rw[ô];refine Ä0 λo _=>?_
   match o with
   |none=>rfl|some (.d _)=>rfl|some (.fr _)=>rfl|some .z=>rfl
  cases hl:k11 l with
  |true =>
   rw[hl] at he;rw[he] at e3;dsimp only at e3;rw[tt,ite_self] at e3;exact frz e3
  |false =>
   rw[hl] at he;rw[he] at e3;dsimp only at e3;split at e3
   ·rename_i hbb;refine e51 (IT (λy=>bare y=true) (hw ow (hz zA H1)) l10 (λa ys q=>u91 q r1.X41) (λd v hd q=>M60 r1.X41 hd q) (λds hds d hd=>?_) λa ys q hor=>?_) r1 st1 (a40.refl _) e3 (po.mono (e00 x1))
    ·have h:=hbb;unfold S50 at h;rw[hds] at h;have:=ö.mp h d hd;cases d with
     |tup m=>exact λy hy=>E80 this hy|lst m=>exact λy hy=>E80 this hy|_=>trivial
    ·rcases hor with ⟨hn,hm1⟩ | hm
     ·refine r90.of (j30 (d20 hm1 (st.c81 hn)) λj w=>?_);obtain⟨zs,k⟩:=rw.lst j a w;rw[hn] at k;cases k
     ·rw[hl] at hm;cases hm
   ·exact frz e3
 ·subst e2;exact⟨zA,ρ,z,_,rw.M70,st,e1,po.er_ rw⟩
end
def isQ:Sm->Bool
 |.nil=>true|.seq _ _=>true|.grp ..=>true|_=>false
def Y41:Ð->Bool
 |.IfExp ..=>false|_=>true
def P32:Ð->Bool
 |.SetComp ..=>false|.DictComp ..=>false|_=>true
def mtI(lm:Bool)(fns:List (Str × List Str))(nums:List (Str × Int))(it:It)(src:Ex)(sc:Á3)(N:List Str)(tg iter:Ð):Bool:=match it with
 |.seq=>mt lm fns nums src sc N [iter]|.rng1=>opt (c32 iter) λr=>r.1.1 == ("range":Str)&&glob sc r.1.1&&mt lm fns nums src sc N [r.1.2.2.1]|.rng2=>opt (c42 iter) λr=>r.1.1 == ("range":Str)&&glob sc r.1.1&&mt lm fns nums src sc N [r.1.2.2.1,r.1.2.2.2.1]|.zip=>opt (c42 iter) λr=>r.1.1 == ("zip":Str)&&glob sc r.1.1&&m00 tg&&mt lm fns nums src sc N [r.1.2.2.1,r.1.2.2.2.1]|.enum=>opt (c32 iter) λr=>r.1.1 == ("enumerate":Str)&&glob sc r.1.1&&m00 tg&&mt lm fns nums src sc N [r.1.2.2.1]
def P42:(p:Pat)->Option {q:Nat × Nat // p=.tup (.cons (.v q.1) (.cons (.v q.2) .nil))}
 |.tup (.cons (.v i) (.cons (.v j) .nil))=>some ⟨(i,j),rfl⟩|_=>none
def P52:(e:Ex)->Option {q:Ex × Ex // e=.tup (.cons q.1 (.cons q.2 .nil))}
 |.tup (.cons a (.cons b .nil))=>some ⟨(a,b),rfl⟩|_=>none
def P62:(e:Ð)->Option {q:Ð × Ð × Nat × Pos // e=.Tuple [q.1,q.2.1] q.2.2.1 q.2.2.2}
 |.Tuple [a,b] k p=>some ⟨(a,b,k,p),rfl⟩|_=>none
def P72(sc:Á3)(p:Pat)(e:Ex)(tg v:Ð):Bool:=opt (P42 p) λ_=>opt (P52 e) λ_=>opt (H22 tg) λt=>opt (P62 v) λu =>
  !(t.1.1 == t.1.2.2.1)&&sc.names.lookup t.1.1 == some .local&&sc.names.lookup t.1.2.2.1 == some .local&&t.1.2.2.2.1.line == t.1.2.1.line&&noStar u.1.1&&noStar u.1.2.1&&!([u.1.1,u.1.2.1].all (Ø1 8))&&!([u.1.1,u.1.2.1].all (constantsAlone 8))
def isNm:Ð->Bool
 |.Name ..=>true|_=>false
def dkB(_:Á3)(_ _:Ð):Bool:=false
def setB(sc:Á3)(p:Pat)(e:Ex)(tg v:Ð):Bool :=
 if isNm tg then(P32 v || dkB sc tg v) else if m00 tg then(if m00 v then(match v with | .Tuple vs _ _=>vs.all (Ø1 8) | _=>false) || (match tg with | .Tuple ts _ _=>ts.any (v41 λy=>sc.names.lookup y) | _=>false) || P72 sc p e tg v else true) else false
def Y51:(e:List Ã9)->Option {q:Ð × Ð × Pos // e=[.Assign [q.1] q.2.1 q.2.2]}
 |[.Assign [tg] v p]=>some ⟨(tg,v,p),rfl⟩|_=>none
def C42:(e:List Ã9)->Option {q:Option Ð × Pos // e=[.Return q.1 q.2]}
 |[.Return v p]=>some ⟨(v,p),rfl⟩|_=>none
def P82:(e:List Ã9)->Option {q:Ð × List Ã9 × List Ã9 × Pos // e=[.If q.1 q.2.1 q.2.2.1 q.2.2.2]}
 |[.If c a b p]=>some ⟨(c,a,b,p),rfl⟩|_=>none
def C52:(e:List Ã9)->Option {q:Ð × Ð × List Ã9 × Pos // e=[.For q.1 q.2.1 q.2.2.1 [] q.2.2.2]}
 |[.For tg iter body [] p]=>some ⟨(tg,iter,body,p),rfl⟩|_=>none
def C62:(e:List Ã9)->Option {q:Ð × List Ã9 × Pos // e=[.While q.1 q.2.1 [] q.2.2]}
 |[.While c body [] p]=>some ⟨(c,body,p),rfl⟩|_=>none
def n32:(e:List Ã9)->Option {q:Ð × Pos // e=[.Raise (some q.1) none q.2]}
 |[.Raise (some x) none p]=>some ⟨(x,p),rfl⟩|_=>none
def n42:(e:List Ã9)->Option {q:Ð × Pos // e=[.Expr q.1 q.2]}
 |[.Expr v p]=>some ⟨(v,p),rfl⟩|_=>none
def C72:(e:Ð)->Option {q:Str × Pos × Str × Nat × Pos × Pos // e=.Call (.Name q.1 q.2.1) [.Constant (.str q.2.2.1) q.2.2.2.1 q.2.2.2.2.1] [] q.2.2.2.2.2}
 |.Call (.Name n p1) [.Constant (.str y) k p2] [] p3=>some ⟨(n,p1,y,k,p2,p3),rfl⟩|_=>none
def C82:(e:Ð)->Option {q:Str × Pos × Str × Pos × Ð × Pos // e=.Call (.Attribute (.Name q.1 q.2.1) q.2.2.1 q.2.2.2.1) [q.2.2.2.2.1] [] q.2.2.2.2.2}
 |.Call (.Attribute (.Name n p) a ap) [v] [] cp=>some ⟨(n,p,a,ap,v,cp),rfl⟩|_=>none
def P92:(e:Ð)->Option {q:Str × Pos × Nat × Pos × Pos // e=.Subscript (.Name q.1 q.2.1) (.Constant (.int 0) q.2.2.1 q.2.2.2.1) q.2.2.2.2}
 |.Subscript (.Name n p) (.Constant (.int 0) c q1) tp=>some ⟨(n,p,c,q1,tp),rfl⟩|_=>none
def Q02:(e:Ð)->Option {q:Str × Pos × Ð × Pos // e=.Subscript (.Name q.1 q.2.1) q.2.2.1 q.2.2.2}
 |.Subscript (.Name n p) w tp=>some ⟨(n,p,w,tp),rfl⟩|_=>none
def Q12:(e:Ð)->Option {q:Str × Pos // e=.Name q.1 q.2}
 |.Name n p=>some ⟨(n,p),rfl⟩|_=>none
def C92:(e:List Ã9)->Option {q:Str × Pos × Ì9 × Ð × Pos // e=[.AugAssign (.Name q.1 q.2.1) q.2.2.1 q.2.2.2.1 q.2.2.2.2]}
 |[.AugAssign (.Name n p) op v pos]=>some ⟨(n,p,op,v,pos),rfl⟩|_=>none
def n52:(e:List Ã9)->Option {q:Str × Pos × Ð × Pos × Ð × Pos // e=[.AugAssign (.Subscript (.Name q.1 q.2.1) q.2.2.1 q.2.2.2.1) .Add q.2.2.2.2.1 q.2.2.2.2.2]}
 |[.AugAssign (.Subscript (.Name n p) w tp) .Add v pos]=>some ⟨(n,p,w,tp,v,pos),rfl⟩|_=>none
def I81:Ex->Bool
 |.con .non=>true|_=>false
def mtS(lm:Bool)(fns:List (Str × List Str))(nums:List (Str × Int))(cn:List Str)(sc:Á3)(N:List Str):Sm->List Ã9->Bool
 |.nil,ss=>ss.isEmpty|.seq s r,ss=>opt ss.head? λst=>!isQ s&&isQ r&&mtS lm fns nums cn sc N s [st]&&mtS lm fns nums cn sc N r ss.tail|.grp i j k src,ss=>H52 lm fns nums sc N i j k src ss|.set p e,ss=>opt (Y51 ss) λq=>!isL e&&i10 N (z60 sc) p q.1.1&&mt lm fns nums e sc N [q.1.2.1]&&setB sc p e q.1.1 q.1.2.1
 |.ret e,ss=>opt (C42 ss) λq=>match q.1.1 with
  |some v=>!isL e&&mt lm fns nums e sc N [v]|none=>I81 e
 |.iff c t u,ss=>opt (P82 ss) λq=>!isL c&&Y41 q.1.1&&isQ t&&isQ u&&mt lm fns nums c sc N [q.1.1]&&mtS lm fns nums cn sc N t q.1.2.1&&mtS lm fns nums cn sc N u q.1.2.2.1|.fr p it src b,ss=>opt (C52 ss) λq=>i10 N (z60 sc) p q.1.1&&isL src&&A90 q.1.2.1&&isQ b&&mtI lm fns nums it src sc N q.1.1 q.1.2.1&&mtS lm fns nums cn sc N b q.1.2.2.1|.whl c b,ss=>opt (C62 ss) λq=>!isL c&&Y41 q.1.1&&isQ b&&mt lm fns nums c sc N [q.1.1]&&mtS lm fns nums cn sc N b q.1.2.1|.rais c,ss=>opt (n32 ss) λq=>opt (C72 q.1.1) λr=>cn[c]? == some r.1.1&&glob sc r.1.1|.exp e,ss=>opt (n42 ss) λq=>T50 q.1.1&&!isL e&&mt lm fns nums e sc N [q.1.1]|.app i e,ss=>opt (n42 ss) λq=>opt (C82 q.1.1) λr=>r.1.2.2.1 == ("append":Str)&&N[i]? == some r.1.1&&c10 r.1.1&&noStar r.1.2.2.2.2.1&&!isL e&&r.1.2.2.2.1.endLine == r.1.2.2.2.2.2.line&&mt lm fns nums e sc N [r.1.2.2.2.2.1]|.newz i f as,ss=>opt (Y51 ss) λq=>opt (Q12 q.1.1) λr=>N[i]? == some r.1.1&&z60 sc r.1.1&&T50 q.1.2.1&&mt lm fns nums (.call f as) sc N [q.1.2.1]|.zset i e,ss=>opt (Y51 ss) λq=>opt (P92 q.1.1) λr=>N[i]? == some r.1.1&&c10 r.1.1&&!isL e&&mt lm fns nums e sc N [q.1.2.1]|.augi i ix e,ss=>opt (n52 ss) λq=>N[i]? == some q.1.1&&c10 q.1.1&&E40 q.1.2.2.1&&!isL e&&!isL ix&&mt lm fns nums e sc N [q.1.2.2.2.2.1]&&mt lm fns nums ix sc N [q.1.2.2.1]|.aug o i e,ss=>opt (C92 ss) λq=>N[i]? == some q.1.1&&z60 sc q.1.1&&s52 o q.1.2.2.1&&!isL e&&mt lm fns nums e sc N [q.1.2.2.2.1]
section
variable {lm:Bool}{X:Cx}{G:Gs}{E:XK}{N:List Str}{sc:Á3}{cn:List Str}{H0:Hp}{zE:Option È}
theorem D02(x:XI lm X G E N sc){it:It}{src:Ex}{tg iter:Ð}(hL:isL src=true)(h:mtI lm G.fns G.nums it src sc N tg iter=true):PI X tg iter (tIt X.K G E it src):=by
 cases it with
 |seq =>
  obtain⟨a,rfl,ga⟩:=u81 hL (sound G src x h);exact O71 ga
 |rng1 =>
  obtain⟨⟨⟨n,_,a,_⟩,rfl⟩,-,h⟩:=a50 h;simp only[À,beq_iff_eq] at h;exact u11 x h.1.1 h.1.2 hL (sound G src x h.2)
 |rng2 =>
  obtain⟨⟨⟨n,_,a,b,_⟩,rfl⟩,-,h⟩:=a50 h;simp only[À,beq_iff_eq] at h;exact u21 x h.1.1 h.1.2 hL (sound G src x h.2)
 |zip =>
  obtain⟨⟨⟨n,_,a,b,_⟩,rfl⟩,-,h⟩:=a50 h;simp only[À,beq_iff_eq] at h;exact u51 x h.1.2 h.1.1.1 h.1.1.2 hL (sound G src x h.2)
 |enum =>
  obtain⟨⟨⟨n,_,a,_⟩,rfl⟩,-,h⟩:=a50 h;simp only[À,beq_iff_eq] at h;exact M30 x h.1.2 h.1.1.1 h.1.1.2 hL (sound G src x h.2)
theorem e61(h:Y41 e=true):∀ t a b p,e≠.IfExp t a b p:=by
 intro t a b p he;subst he;cases h
def GS(X:Cx)(G:Gs)(E:XK)(H0:Hp)(zE:Option È)(s:Sm)(ss:List Ã9):Prop:=(isQ s=true->PSs X ss (tX X.K G E H0 zE s))/\(isQ s=false->∃ st,ss=[st]/\PS X st (tX X.K G E H0 zE s))
theorem o20{s:Sm}{st:Ã9}(hq:isQ s=false)(h:PS X st (tX X.K G E H0 zE s)):GS X G E H0 zE s [st]:=⟨λk=>(by rw[hq] at k;cases k),λ_=>⟨st,rfl,h⟩⟩
theorem Y61{x:XI lm X G E N sc}{e:Ex}{elt:Ð}{gs:List Comprehension}{csc:Á3}{q:Pos}(h:mt lm G.fns G.nums e sc N [.ListComp elt gs csc q]=true)(hL:isL e=false):∃ tg iter ifs,gs=[⟨tg,iter,ifs,0⟩]/\I20 X G E e elt tg iter ifs csc:=by
 cases e with
 |comp own capt p it src cond el =>
  match gs,h with
  |[⟨tg,iter,ifs,0⟩],h=>exact⟨tg,iter,ifs,rfl,T40 (λx _=>sound G src x) (λx _=>sound G cond x) (λx _=>sound G el x) x h⟩
 |nil=>cases hL
 |cons _ _=>cases hL
 |bf f as=>cases f <;> cases h
 |_=>cases h
theorem Y71(h:isNm e=true):∃ y p,e=.Name y p:=by
 cases e <;> first | exact⟨_,_,rfl⟩ | cases h
theorem w60(h:m00 e=true):∃ ts k p,e=.Tuple ts k p:=by
 cases e <;> first | exact⟨_,_,_,rfl⟩ | cases h
theorem D12(x:XS lm X G E N sc cn){p:Pat}{e:Ex}{tg v:Ð}{pos:Pos}(h1:(!isL e)=true)(h2:i10 N (z60 sc) p tg=true)(h3:mt lm G.fns G.nums e sc N [v]=true)(h4:setB sc p e tg v=true):PS X (.Assign [tg] v pos) (tX X.K G E H0 zE (.set p e)):=by
 have g:=a70 (b70 h1) (sound G e x.toXI h3);unfold setB at h4;split at h4
 ·rename_i hn;obtain⟨y,px,rfl⟩:=Y71 hn;cases p with
  |v i =>
   unfold i10 at h2;rw[À,beq_iff_eq] at h2;refine B32 x h2.1 h2.2 g (λelt gs csc q hv=>?_) (λa b c d hv=>?_) (λa b c d f hv=>?_)
   ·subst hv;exact Y61 (x:=x.toXI) h3 (b70 h1)
   ·subst hv;cases h4
   ·subst hv;cases h4
  |tup _=>unfold i10 at h2;cases h2
  |nil=>unfold i10 at h2;cases h2
  |cons _ _=>unfold i10 at h2;cases h2
 ·split at h4
  ·rename_i ht;split at h4
   ·rename_i hv;rw[Å1,Å1] at h4;rcases h4 with (h4 | h4) | h4
    ·obtain⟨ts,k,tp,rfl⟩:=w60 ht;obtain⟨vs,k',vp,rfl⟩:=w60 hv;exact v51 x h2 g rfl (X71 h4)
    ·obtain⟨ts,k,tp,rfl⟩:=w60 ht;obtain⟨vs,k',vp,rfl⟩:=w60 hv;refine v51 x h2 g rfl (X81 ?_);have e:X.env.kindOf=λy=>sc.names.lookup y:=by funext y;unfold Env.kindOf;rw[x.sco]
     rw[e];exact h4
    ·clear g h1 ht hv;obtain⟨⟨⟨i,j⟩,rfl⟩,-,h4⟩:=a50 h4;obtain⟨⟨⟨ea,eb⟩,rfl⟩,-,h4⟩:=a50 h4;obtain⟨⟨⟨y,px,w,py,kt,tp⟩,rfl⟩,-,h4⟩:=a50 h4;obtain⟨⟨⟨a,b,kv,vp⟩,rfl⟩,-,h4⟩:=a50 h4;simp only[À,ø,beq_iff_eq] at h4;obtain⟨⟨⟨⟨⟨⟨⟨k1,k2⟩,k3⟩,k4⟩,k5⟩,k6⟩,k7⟩,k8⟩:=h4;unfold i10 at h2;simp only[d31,i10,À,beq_iff_eq] at h2;obtain⟨⟨_,h21,_⟩,⟨_,h22,_⟩,_⟩:=h2;have h3':(isL (.cons ea (.cons eb .nil))&&mt lm G.fns G.nums (.cons ea (.cons eb .nil)) sc N [a,b])=true:=h3;rw[À] at h3';have ga:Good X G E (.cons ea (.cons eb .nil)) [a,b]:=sound G (.cons ea (.cons eb .nil)) x.toXI h3'.2;refine B42 x h21 h22 (by simpa using k1) k2 k3 ga (m52 x.bk ?_ ?_ (by simpa using k1) (by rw[k4];exact beq_self_eq_true _) k5 k6 k7 k8)
     ·unfold Env.kindOf;rw[x.sco];exact k2
     ·unfold Env.kindOf;rw[x.sco];exact k3
   ·rename_i hv;exact v51 x h2 g ht (X61 (by simpa using hv))
  ·cases h4
theorem w21(h:I81 e=true):e=.con .non:=by
 unfold I81 at h;split at h
 ·rfl
 ·cases h
theorem D22(x:XS lm X G E N sc cn)(h:(match o with | some v=>!isL e&&mt lm G.fns G.nums e sc N [v] | none=>I81 e)=true):PS X (.Return o pos) (tX X.K G E H0 zE (.ret e)):=by
 cases o with
 |some v =>
  have h:(!isL e&&mt lm G.fns G.nums e sc N [v])=true:=h;rw[À] at h;by_cases hv:∃ i,e=.var i
  ·obtain⟨i,rfl⟩:=hv;have h2:=h.2;cases v with
   |Name n p =>
    have h2:(N[i]? == some n&&c10 n)=true:=h2;rw[À,beq_iff_eq] at h2;exact m62 x h2.1 h2.2
   |_=>cases h2
  ·exact B52 (λi hi=>hv ⟨i,hi⟩) (a70 (b70 h.1) (sound G e x.toXI h.2))
 |none =>
  have he:=w21 h;subst he;refine PS.imp Q81 λD σ H q=>?_;obtain⟨zA,ow,ρ,z,rr,rw,st,ee,po⟩:=q;cases ee;exact po .non H (λk=>nomatch k) rw.ext (X51 rw.zok st) (show Hd X.K (hz zE H) .non .non from Hd.non)
theorem Q22(x:XS lm X G E N sc cn){p:Pat}{it:It}{src:Ex}{b:Sm}{tg iter:Ð}{body:List Ã9}{pos:Pos}(h1:i10 N (z60 sc) p tg=true)(h2:isL src=true)(h3:A90 iter=true)(h5:mtI lm G.fns G.nums it src sc N tg iter=true)(hb:PSs X body (tX X.K G E H0 zE b)) :
  PS X (.For tg iter body [] pos) (tX X.K G E H0 zE (.fr p it src b)):=by
 cases hv:U81 it src with
 |some q =>
  obtain⟨i,rfl,rfl⟩:=q;have h5':(noStar iter&&!isL (.var i)&&isL .nil&&mt lm G.fns G.nums (.var i) sc N [iter]&&mt lm G.fns G.nums .nil sc N [])=true:=h5;simp only[À] at h5';have h7:=h5'.1.2;cases iter with
  |Name n np =>
   have h7:(N[i]? == some n&&c10 n)=true:=h7;rw[À,beq_iff_eq] at h7;exact n22 x h1 h7.1 h7.2 hb
  |_=>cases h7
 |none=>exact C32 x h1 (D02 x.toXI h2 h5) h3 hv hb
theorem n62(x:XS lm X G E N sc cn):∀ (s:Sm) {ss:List Ã9},mtS lm G.fns G.nums cn sc N s ss=true->GS X G E H0 zE s ss:=by
 intro s
 induction s with
 |nil =>
  intro ss h;have:ss=[]:=Ð0.mp h;subst this;exact⟨λ_=>B12,λk=>by cases k⟩
 |seq s r ihs ihr =>
  intro ss h;obtain⟨st,h0,h⟩:=a50 h;cases ss with
  |nil=>cases h0
  |cons st' rest =>
   cases h0;simp only[À,ø,List.tail_cons] at h;obtain⟨⟨⟨h1,h2⟩,h3⟩,h4⟩:=h;obtain⟨st',he,hs⟩:=(ihs h3).2 h1;cases he;exact⟨λ_=>B22 hs ((ihr h4).1 h2),λk=>by cases k⟩
 |grp i j k src =>
  intro ss h;exact⟨λ_=>C12 x h,λk=>by cases k⟩
 |set p e =>
  intro ss h;obtain⟨⟨q,rfl⟩,-,h⟩:=a50 h;simp only[À] at h;exact o20 rfl (D12 x h.1.1.1 h.1.1.2 h.1.2 h.2)
 |ret e =>
  intro ss h;obtain⟨⟨q,rfl⟩,-,h⟩:=a50 h;exact o20 rfl (D22 x h)
 |iff c t u iht ihu =>
  intro ss h;obtain⟨⟨q,rfl⟩,-,h⟩:=a50 h;simp only[À] at h;obtain⟨⟨⟨⟨⟨⟨h1,h2⟩,h3⟩,h4⟩,h5⟩,h6⟩,h7⟩:=h;exact o20 rfl (O22 (a70 (b70 h1) (sound G c x.toXI h5)) (e61 h2) ((iht h6).1 h3) ((ihu h7).1 h4))
 |fr p it src b ih =>
  intro ss h;obtain⟨⟨q,rfl⟩,-,h⟩:=a50 h;simp only[À] at h;obtain⟨⟨⟨⟨⟨h1,h2⟩,h3⟩,h4⟩,h5⟩,h6⟩:=h;exact o20 rfl (Q22 x h1 h2 h3 h5 ((ih h6).1 h4))
 |whl c b ih =>
  intro ss h;obtain⟨⟨q,rfl⟩,-,h⟩:=a50 h;simp only[À] at h;obtain⟨⟨⟨⟨h1,h2⟩,h3⟩,h4⟩,h5⟩:=h;exact o20 rfl (B92 x (a70 (b70 h1) (sound G c x.toXI h4)) (e61 h2) ((ih h5).1 h3))
 |rais c =>
  intro ss h;obtain⟨⟨⟨e,pos⟩,rfl⟩,-,h⟩:=a50 h;dsimp only at h;obtain⟨⟨⟨n,p1,y,k,p2,p3⟩,rfl⟩,-,h⟩:=a50 h;simp only[À,beq_iff_eq] at h;exact o20 rfl (x_raise x h.1 h.2)
 |exp e =>
  intro ss h;obtain⟨⟨q,rfl⟩,-,h⟩:=a50 h;simp only[À] at h;exact o20 rfl (B62 (a70 (b70 h.1.2) (sound G e x.toXI h.2)) h.1.1)
 |app i e =>
  intro ss h;obtain⟨⟨⟨v0,pos⟩,rfl⟩,-,h⟩:=a50 h;dsimp only at h;obtain⟨⟨⟨n,p1,a,apos,v,cpos⟩,rfl⟩,-,h⟩:=a50 h;simp only[À,beq_iff_eq] at h;obtain⟨⟨⟨⟨⟨⟨h7,h8⟩,h2⟩,h3⟩,h4⟩,h5⟩,h6⟩:=h;subst h7;exact o20 rfl (B82 x h8 h2 h3 (a70 (b70 h4) (sound G e x.toXI h6)) (by rw[h5];exact beq_self_eq_true _))
 |newz i f as =>
  intro ss h;obtain⟨⟨⟨tg,v,pos⟩,rfl⟩,-,h⟩:=a50 h;dsimp only at h;obtain⟨⟨⟨y,p1⟩,rfl⟩,-,h⟩:=a50 h;simp only[À,beq_iff_eq] at h;obtain⟨⟨⟨h1,h2⟩,h3⟩,h4⟩:=h;exact o20 rfl (m92 x h1 h2 (a70 rfl (sound G (.call f as) x.toXI h4)) h3)
 |zset i e =>
  intro ss h;obtain⟨⟨⟨tg,v,pos⟩,rfl⟩,-,h⟩:=a50 h;dsimp only at h;obtain⟨⟨⟨n,p1,c,p2,p3⟩,rfl⟩,-,h⟩:=a50 h;simp only[À,beq_iff_eq] at h;exact o20 rfl (n02 x h.1.1.1 h.1.1.2 (a70 (b70 h.1.2) (sound G e x.toXI h.2)))
 |augi i ix e =>
  intro ss h;obtain⟨⟨⟨n,p1,w,tp,v,pos⟩,rfl⟩,-,h⟩:=a50 h;simp only[À,beq_iff_eq] at h;obtain⟨⟨⟨⟨⟨⟨h1,h2⟩,h3⟩,h4⟩,h5⟩,h6⟩,h7⟩:=h;exact o20 rfl (m82 x h1 h2 (a70 (b70 h4) (sound G e x.toXI h6)) (a70 (b70 h5) (sound G ix x.toXI h7)) h3)
 |aug o i e =>
  intro ss h;obtain⟨⟨⟨y,p1,op,v,pos⟩,rfl⟩,-,h⟩:=a50 h;simp only[À,beq_iff_eq] at h;exact o20 rfl (B72 x h.1.1.1.1 h.1.1.1.2 h.1.1.2 (a70 (b70 h.1.2) (sound G e x.toXI h.2)))
end
structure GX(P:Program)(w:World)(K:PySem.W.Frag)(mg:Str->Option Value)(base:Heap)(G:Gs)(cn:List Str):Prop where
 gok:∀ f nm ps,G.fns[f]?=some (nm,ps)->∃ fa fd,mg nm=some (.ref fa)/\PySem.W.keepIn K (.ref fa)=true/\Binds K fd ps []/\i31 P w K mg base (CX1 P w) G.lv fa fd ps (spF K G f ps.length)
 num:∀ p∈G.nums,∃ t,mg p.1=some (.int p.2 t)
 blt:∀ n∈W71,mg n=none
 cls:∀ c x,cn[c]?=some x->mg x=some (.ref (G.cls c))/\PySem.W.excIn K (G.cls c) [.type "ValueError",.type "Exception",.type "BaseException",.type "object"] "ValueError.__new__"=true
section
variable {P:ã}{w:ü}{K:Â}{mg:Str->Option Ä}{base:õ}{G:Gs}{cn:List Str}
theorem n72(g:GX P w K mg base G cn){lm:Bool}{N ps:List Str}{qual:Str}{sc:Á3}{f:È}{fd:É3}{cd:Ä}{A:À3}{outer:List Ç1}{s:Æ}{H:Hp}{E:XK}(S:s70 N ps sc)(hl:N.all (z60 sc)=true)
  (hr:Q40 G.lv (A.deeper (Õ0 qual sc s.heap.objs.size f cd))) (hc:fd.code=cd):XS lm (Q90 (CX1 P w) P w K mg base N qual sc f cd A outer s H E) G E N sc cn where
 gok:=g.gok
 num:=g.num
 blt:=g.blt
 hN:=rfl
 nd:=S.nd
 vis:=λx hx=>by
  have:=ö.mp hl x hx;unfold z60 at this;rw[Å1,beq_iff_eq,beq_iff_eq] at this;rcases this with h | h
  ·exact .inl h
  ·exact .inr (.inl h)
 glb:=λx h=>h
 cel:=λx h=>h
 calm:=rfl
 room:=hr
 pas:=x12
 sco:=rfl
 fnk:=S.kind
 own:=PassesOwn.leaving
 can:=r41
 fnx:=λ_=>rfl
 cls:=g.cls
theorem Q32{x qual:Str}{st:Ã9}{f:È}{fd:É3}{N ps:List Str}{k:Nat}{sp:Sp}(F:Fun K x qual st f fd)(S:s70 N ps (c90 st))(len:∀ vs H Q E,sp vs H Q E->vs.length=ps.length)
  (hb:∀ (cdv:Ä),fd.code=cdv->∀ (A:À3) (outer:List Ç1) (s:Æ) (H:Hp) (vs:List V) (Q:VK) (E:XK),Q40 k (A.deeper (Õ0 qual (c90 st) s.heap.objs.size f cdv))->sp vs H Q E ->
   ∃ t,PSs (Q90 (CX1 P w) P w K mg base N qual (c90 st) f cdv A outer s H E) (o60 st) t/\t { nx:=λ_ H'=>Q .non H',rt:=Q } (L2.start N vs) H):i31 P w K mg base (CX1 P w) (k + 1) f fd ps sp:=by
 obtain⟨oc,od,kV,doc,pm,an,cdv,ct,osl,rfl,lk,hcd⟩:=F.ex;exact v72 lk hcd S len λA outer s H vs Q E hr hsp=>hb cdv rfl A outer s H vs Q E hr hsp
theorem e71:∀ {ss:List S}{vs:List V}{i:Nat}{s:S}{n:Nat},RvA K zA H ss vs->(ss.map some++æ n none)[i]?=some (some s)->∃ v,(vs.map some++æ n none)[i]?=some (some v)/\RvP K zA H s v
 |[],_,i,s,n,h,e=>by
  cases h;simp only[map_nil,É1] at e;rw[Ð1] at e;split at e <;> cases e
 |a::ss,_,0,s,n,h,e=>by
  cases h with
  |cons h1 h2 =>
   simp only[Â0,Ó4,Ü6] at e;cases e;exact⟨_,rfl,h1⟩
 |a::ss,_,i + 1,s,n,h,e=>by
  cases h with
  |cons h1 h2 =>
   obtain⟨v,k1,k2⟩:=e71 (i:=i) (s:=s) (n:=n) h2 (by simpa using e)
   exact⟨v,by simpa using k1,k2⟩
theorem Ã4.len{α β:Type}{R:α->β->Prop}:∀ {l:List α}{m:List β},Ã4 R l m->l.length=m.length
 |[],_,h=>by cases h;rfl
 |_::_,_,h=>by
  cases h with
  |cons h1 h2=>simp[Ã4.len h2]
theorem I91(h:RvA K zA H ss vs)(hn:∀ s∈ss,∀ xs,s≠.fr xs):RW K H zA zA (λ_=>none) H (Q.start N.length ss) (L2.start N vs):=by
 have hl:ss.length=vs.length:=Ã4.len h;refine⟨?_,λi j a e=>(nomatch e),λi a e=>(nomatch e),λi a e=>(nomatch e),λi s e=>?_,Ext.refl,.inl rfl,λi a e=>(nomatch e)⟩
 ·unfold Q.start L2.start;simp[hl]
 ·unfold Q.start at e;obtain⟨v,k1,k2⟩:=e71 h e;refine⟨v,?_,?_⟩
  ·unfold L2.start;rw[← hl];exact k1
  ·cases s with
   |d x=>exact⟨rfl,by rw[y40];exact k2⟩|z=>exact⟨rfl,k2⟩
   |fr xs =>
    rcases Á0.mp (é e) with q | q
    ·obtain⟨s',q1,q2⟩:=Ø.mp q;cases q2;exact absurd rfl (hn _ q1 xs)
    ·cases List.eq_of_mem_replicate q
theorem Y81(st:e20 zA z H):s42 zA z1=L30 z z1:=by
 have st:=st.zat;cases zA with
 |none =>
  cases z with
  |none=>rfl|some p=>exact st.elim
 |some a =>
  cases z with
  |none=>exact st.elim|some p=>rfl
theorem w31(st:e20 zA z H):z.isNone=zA.isNone:=by
 have st:=st.zat;cases zA with
 |none =>
  cases z with
  |none=>rfl|some p=>exact st.elim
 |some a =>
  cases z with
  |none=>exact st.elim|some p=>rfl
theorem w41(g:GX P w K mg base G cn){lm:Bool}{N ps:List Str}{nm:Str}{st:Ã9}{fa:È}{fd:É3}{b:Sm}{f:Nat}{F':FT}(Fn:Fun K nm nm st fa fd)(Sc:s70 N ps (c90 st))(hl:N.all (z60 (c90 st))=true)
  (ch:mtS lm G.fns G.nums cn (c90 st) N b (o60 st)=true) (hq:isQ b=true)
  (hF:∀ l z,F' false f l z=run G.F (.code ps.length N.length b) l z):i31 P w K mg base (CX1 P w) (G.lv + 1) fa fd ps (spF K { G with F:=F',lv:=G.lv + 1 } f ps.length):=by
 refine Q32 Fn Sc (λvs H Q E h=>h.1) λcdv hcd A outer s H vs Qv E hr hsp=>?_;obtain⟨hlen,zA,z,ss,r,rv,st',e,po⟩:=hsp;refine⟨_,(n62 (H0:=H) (zE:=zA) (n72 g Sc hl hr hcd) b ch).1 hq,?_⟩;have e0:(if ss.length=ps.length/\ps.length<=N.length then(match ex G.F z.isNone b (Q.start N.length (ss.map plS)) z with
  |some (.ok (.nx _) z1)=>some (R.ok (S.d .non) (L30 z z1))|some (.ok (.rt s) z1)=>some (R.ok s (L30 z z1))|some (.er c z1)=>some (R.er c (L30 z z1))
  |none=>none) else none)=some r:=by
  have:=hF ss z;exact this.symm.trans e
 rw[w31 st'] at e0;split at e0
 ·have rw0:RW K H zA zA (λ_=>none) H (Q.start N.length (ss.map plS)) (L2.start N vs):=I91 rv.plS λs hs xs=>by
   obtain⟨s',_,rfl⟩:=Ø.mp hs;cases s' <;> exact λh=>nomatch h
  split at e0
  ·rename_i ρ z1 e1;cases e0;refine⟨zA,_,_,z,_,rw0,st',e1,λzA' ow' σ' H' r' st1 _=>?_⟩;refine po .non H' r'.ext ?_ (show Hd K (hz zA H') .non .non from Hd.non);rw[← Y81 st'];exact X51 r'.zok st1
  ·rename_i s1 z1 e1;cases e0;refine⟨zA,_,_,z,_,rw0,st',e1,λv H' nz x st1 rv'=>?_⟩;exact po v H' x (by rw[← Y81 st'];exact st1) rv'
  ·rename_i c z1 e1;cases e0;refine⟨zA,_,_,z,_,rw0,st',e1,λe H' x st1 hn=>?_⟩;exact po e H' x (by rw[← Y81 st'];exact st1) hn
  ·cases e0
 ·cases e0
def lev(G:Gs)(T:List Df)(k:Nat):Gs:={ G with F:=P60 T k,lv:=k }
theorem n82{T:List Df}
  (num:∀ p∈G.nums,∃ t,mg p.1=some (.int p.2 t)) (blt:∀ n∈W71,mg n=none)
  (cls:∀ c x,cn[c]?=some x->mg x=some (.ref (G.cls c))/\Í8 K (G.cls c) [.type "ValueError",.type "Exception",.type "BaseException",.type "object"] "ValueError.__new__"=true)
  (hd:∀ (f:Nat) (nm:Str) (ps:List Str),G.fns[f]?=some (nm,ps)->∃ (fa:È) (fd:É3),mg nm=some (.ref fa)/\PySem.W.keepIn K (.ref fa)=true/\Binds K fd ps [] /\
   ((∃ (lm:Bool) (N:List Str) (st:Ã9) (b:Sm),T[f]?=some (Df.code ps.length N.length b)/\Fun K nm nm st fa fd/\s70 N ps (c90 st)/\N.all (z60 (c90 st))=true/\isQ b=true/\mtS lm G.fns G.nums cn (c90 st) N b (o60 st)=true) ∨
    T[f]?=none)):∀ k,GX P w K mg base (lev G T k) cn:=by
 have zero:∀ k,k < 3->GX P w K mg base (lev G T k) cn:=λk hk=>by
  refine⟨λf nm ps h=>?_,num,blt,cls⟩;obtain⟨fa,fd,h1,h2,h3,_⟩:=hd f nm ps h;refine⟨fa,fd,h1,h2,h3,λvs H Q E q=>q.1,λA outer s H args us vs Q E hr he hb hv hs=>?_⟩;obtain⟨_,zA,z,ss,r,_,_,e,_⟩:=hs
  match k,hk with
  |0,_=>cases e
  |1,_=>cases e
  |2,_=>cases e
 intro k
 induction k using Nat.strongRecOn with
 |ind k ih =>
  match k,ih with
  |0,_=>exact zero 0 (-0)|1,_=>exact zero 1 (-0)|2,_=>exact zero 2 (-0)
  |k + 3,ih =>
   refine⟨λf nm ps h=>?_,num,blt,cls⟩;obtain⟨fa,fd,h1,h2,h3,h4⟩:=hd f nm ps h;refine⟨fa,fd,h1,h2,h3,?_⟩;rcases h4 with ⟨lm,N,st,b,k1,k2,k3,k4,k5,k6⟩ | h4
   ·refine w41 (G:=lev G T (k + 2)) (F':=P60 T (k + 3)) (ih (k + 2) ∅) k2 k3 k4 k6 k5 λl z=>?_
    ·show(match T[f]? with | some d=>run (P60 T (k + 2)) d l | none=>M.no) z=_
     rw[k1];rfl
   ·refine⟨λvs H Q E q=>q.1,λA outer s H args us vs Q E hr he hb hv hs=>?_⟩;obtain⟨_,zA,z,ss,r,_,_,e,_⟩:=hs;have e':(match T[f]? with | some d=>run (P60 T (k + 2)) d ss | none=>M.no) z=some r:=e
    rw[h4] at e';cases e'
end
end Q
namespace L2
open PySem PySem.W PySem.Calls PyProof.Rows
def E90(thr sok:Thread->Bool)(stp:SharedT->Thread->Option (SharedT × Thread)):Nat->SharedT->Thread->Option SharedT
 |0,_,_=>none
 |n + 1,s,t=>match thr t with
  |true=>some s
  |false=>match sok t with
   |false=>none
   |true=>match stp s t with
    |some (s',t')=>E90 thr sok stp n s' t'|none=>none
theorem T80:∀ {n:Nat}{s s':SharedT}{t:Thread},E90 through (stepOk n₀ ann) (stepT (denote tb) p w) n s t=some s'->topRun tb p w n₀ ann n s.abs t=some s'.abs
 |0,_,_,_,h=>by cases h
 |n + 1,s,s',t,h=>by
  unfold E90 at h;unfold topRun;cases ht:through t with
  |true=>rw[ht] at h;cases h;rfl
  |false =>
   rw[ht] at h;cases hok:stepOk n₀ ann t with
   |false=>rw[hok] at h;cases h
   |true =>
    rw[hok] at h;cases hst:stepT (denote tb) p w s t with
    |none=>rw[hst] at h;cases h
    |some r=>obtain⟨s₂,t₂⟩:=r;rw[hst] at h;rw[stepT_spec hst];exact T80 h
def grow:List Obj->Nat->BT->BT
 |[],_,t=>t|o::r,i,t=>grow r (i + 1) (t.ins i o)
def Y91(w:ü)(os:OsState):SharedT:=⟨grow (È3 w.params).objs.toList 0 .nil,11,(È3 w.params).life,Array.mk [],boot_drawn,boot_toks,os⟩
theorem w51:∀ (w:ü) (os:OsState),(Y91 w os).abs=⟨È3 w.params,Array.mk [],boot_drawn,boot_toks,os⟩:=λw os=>by kernel_rfl
theorem w61:∀ w:ü,((È3 w.params).isNs ó&&(Array.mk []:Array GenState).size == 0,(È3 w.params).objs.size,(È3 w.params).nsMap ó "__annotations__")=(true,11,some (.ref 6)):=λw=>by kernel_rfl
theorem Z01{p q:ã}{loose:List Str}{Xt:Æ->Bool}{α:Type}{Yf:Æ->α}{Ya:ü->α}{N:Nat}
  (e:opening p=plainProg p.main.scope.names) (hN:ble 600 N=true) (f:∀ s,fenceModules? p s=some s)
  (run:∀ (w:ü) (os:OsState),(E90 through (stepOk 11 (some (.ref 6))) (stepT (denote treeTable) p w) N (Y91 w os) (topStub p)).map (λs =>
   (staticsOk (Í6 p.main.body) (È3 w.params) s.abs.heap&&namesBound p s.abs.heap&&gensDone s.abs&&laidKept (È3 w.params) s.abs.heap,
    openSeen q loose (Í6 p.main.body) Xt true s.abs,Yf s.abs))=some (true,openGood q loose,Ya w)):LeftO p q loose Xt Yf Ya N:=λw=>by
 obtain⟨⟨h,gs,d,k,os⟩,e1,e2⟩:=Ë.mp (boot_open (N:=N) e hN f w);obtain⟨rfl,rfl,rfl,rfl⟩:h=È3 w.params/\gs=Array.mk []/\d=boot_drawn/\k=boot_toks:=by simpa using e2
 obtain⟨z1,z2,z3⟩:_/\_/\_:=by simpa only [Ñ9] using w61 w
 obtain⟨s1,r1,r2⟩:=Ë.mp (run w os);obtain⟨l1,l2,l3⟩:_/\_/\_:=by simpa only [Ñ9] using r2
 have r:=T80 r1;rw[w51] at r;unfold openEnds;rw[e1];show Ì5 _ (topFrom treeTable p w N _)=_;unfold topFrom;dsimp only;rw[z1,z2,z3,r];show Ì5 _ (match staticsOk (Í6 p.main.body) (È3 w.params) s1.abs.heap&&namesBound p s1.abs.heap&&gensDone s1.abs&&laidKept (È3 w.params) s1.abs.heap with | true=>_ | false=>_)=_
 rw[l1];exact congrArg Option.some (Prod.ext l2 l3)
def T90(o:Obj):Bool:=match o with
 |⟨.none,none,.fields vs,sl⟩=>vs.isEmpty&&sl.isEmpty|_=>false
def D32(h:õ)(a:È):Option Obj:=match h.get? a with
 |some o=>if T90 o then none else some o|none=>none
def fragOf(h:õ):Frag:=(Û h.objs.size).filterMap λa=>(D32 h a).map λo=>(a,o)
theorem w70(g:È->Option Obj)(a:È):∀ l:List È,(l.filterMap λa=>(g a).map λo=>(a,o)).lookup a=if a∈l then g a else none
 |[]=>rfl
 |b::r=>by
  by_cases hb:a=b
  ·subst hb;rw[if_pos É];cases hg:g a with
   |none =>
    rw[Á2,hg];show(r.filterMap λa=>(g a).map λo=>(a,o)).lookup a=none;rw[w70 g a r];split
    ·exact hg
    ·rfl
   |some o =>
    rw[Á2,hg];show Ë1 a ((a,o)::_)=some o;rw[List.lookup_cons_self]
  ·have hm:(a∈b::r)↔a∈r:=by rw[Á1];exact⟨λh=>h.resolve_left hb,Or.inr⟩
   have ih:=w70 g a r;have e:(if a∈b::r then g a else none)=if a∈r then g a else none:=by simp only[hm]
   rw[e,← ih];cases hg:g b with
   |none=>rw[Á2,hg];rfl
   |some o =>
    rw[Á2,hg];show Ë1 a ((b,o)::_)=_;have:(a == b)=false:=by simpa using hb
    simp only[Ë1,this]
theorem w71(h:õ):(fragOf h).In h:=λa o e=>by
 unfold fragOf at e;rw[w70] at e;split at e
 ·unfold D32 at e;cases hg:h.get? a with
  |none=>rw[hg] at e;cases e
  |some u =>
   rw[hg] at e;dsimp only at e;split at e
   ·cases e
   ·exact e
 ·cases e
theorem Z11(h:T90 o=true):o=tabObj #[]:=by
 unfold T90 at h;split at h
 ·rename_i vs sl;rw[À,Array.isEmpty_iff,Array.isEmpty_iff] at h;obtain⟨rfl,rfl⟩:=h;rfl
 ·cases h
theorem k71(e:h.get? a=some o)(t:T90 o=true):(fragOf h).lookup a=none:=by
 unfold fragOf;rw[w70];split
 ·unfold D32;rw[e];exact if_pos t
 ·rfl
def w81(K:Frag)(x:Str):Option (Str × Str × Arguments × FuncBody × Á3 × È × List (Str × È) × Ä × È × Bool):=match nsIn K ó x with
 |some (some (.ref at0))=>(match K.lookup at0 with
  |some ⟨_,_,.func fd,_⟩=>some (fd.name,fd.qualname,fd.params,fd.body,fd.scope,fd.globals,fd.closure,fd.defaults,fd.builtins,codeIn K fd.code x)
  |_=>none)
 |_=>none
def Z21(x:Str)(st:Ã9):Option (Str × Str × Arguments × FuncBody × Á3 × È × List (Str × È) × Ä × È × Bool):=some (x,x,J60 st,.stmts (o60 st),c90 st,ó,[],.none,builtinsNs,true)
theorem Z00{K:Frag}{x:Str}{st:Ã9}(e:w81 K x=Z21 x st):∃ f fd,nsIn K ó x=some (some (.ref f))/\Fun K x x st f fd/\∃ oc od sl,K.lookup f=some ⟨oc,od,.func fd,sl⟩:=by
 unfold w81 Z21 at e;split at e
 ·rename_i f hf;split at e
  ·rename_i oc od fd sl hl;obtain⟨nm,qn,pm,bd,sc,gl,cl,df,kd,dc,py,an,cd,ct,bl⟩:=fd;simp only[Ñ9,Ñ8] at e;obtain⟨rfl,rfl,rfl,rfl,rfl,rfl,rfl,rfl,rfl,hc⟩:=e;exact⟨f,_,hf,⟨⟨oc,od,kd,dc,py,an,cd,ct,sl,rfl,hl,hc⟩,by simp only[keepIn,hl]⟩,oc,od,sl,hl⟩
  ·cases e
 ·cases e
def tab0At(h:õ)(T:È):Bool:=match h.get? T with
 |some o=>T90 o|none=>false
theorem w91{h:õ}{T:È}(e:tab0At h T=true):h.get? T=some (tabObj #[]):=by
 unfold tab0At at e;split at e
 ·rename_i o ho;rw[ho,Z11 e]
 ·cases e
def x01(h:õ)(K:Frag)(x:Str):Option Addr:=match nsIn K ó x with
 |some (some (.ref at0))=>(match K.lookup at0 with
  |some ⟨_,_,.func fn0,_⟩=>(match fn0.code with
   |.ref c=>(match K.lookup c with
    |some ⟨_,_,.fields vs,_⟩=>(match (vs[11]?:Option Ä) with
     |some (.ref T)=>if codeHdIn K c T&&tab0At h T then some T else none
     |_=>none)
    |_=>none)
   |_=>none)
  |_=>none)
 |_=>none
theorem k81{h:õ}{K:Frag}{x:Str}{T:È}(e:x01 h K x=some T):h.get? T=some (tabObj #[])/\∃ f oc od fd sl c,nsIn K ó x=some (some (.ref f))/\K.lookup f=some ⟨oc,od,.func fd,sl⟩/\fd.code=.ref c/\codeHdIn K c T=true:=by
 unfold x01 at e;split at e
 ·rename_i f hf;split at e
  ·rename_i oc od fd sl hl;split at e
   ·rename_i c hc;split at e
    ·split at e
     ·rename_i T' _;split at e
      ·rename_i q;cases e;rw[À] at q;obtain⟨q1,q2⟩:=q;exact⟨w91 q2,f,oc,od,fd,sl,c,hf,hl,hc,q1⟩
      ·cases e
     ·cases e
    ·cases e
   ·cases e
  ·cases e
 ·cases e
def k91(K:Frag)(x:Str):Option Addr:=match nsIn K ó x with
 |some (some (.ref f))=>some f|_=>none
theorem J01{K:Frag}{x:Str}{f:È}(e:k91 K x=some f):nsIn K ó x=some (some (.ref f)):=by
 unfold k91 at e;split at e
 ·cases e;assumption
 ·cases e
def x11(K:Frag)(C:È):Bool:=excIn K C [.type "ValueError",.type "Exception",.type "BaseException",.type "object"] "ValueError.__new__"
def P41(_:Str):Bool:=true
def Z10(K:Frag)(x:Str):Option Int:=match nsIn K ó x with
 |some (some (.int i _))=>some i|_=>none
theorem Z20{K:Frag}{x:Str}{i:Int}(e:Z10 K x=some i):∃ t,nsIn K ó x=some (some (.int i t)):=by
 unfold Z10 at e;split at e
 ·rename_i t h;cases e;exact⟨t,h⟩
 ·cases e
def Z30(K:Frag)(x:Str):Bool:=match nsIn K ó x with
 |some none=>true|_=>false
theorem Z40{K:Frag}{x:Str}(e:Z30 K x=true):nsIn K ó x=some none:=by
 unfold Z30 at e;split at e
 ·assumption
 ·cases e
structure o40 where
 ds:List (Str × Stmt)
 is:List (Str × Int)
 ns:List Str
 ms:List Str
 cs:List Str
def o40.obs(q:o40)(s:Æ) :=
 let K:=fragOf s.heap
 (q.ds.map λd=>w81 K d.1,q.is.map λd=>Z10 K d.1,q.ns.map (Z30 K),q.ms.map λx=>(x01 s.heap K x).isSome,q.cs.map λx=>(k91 K x).map (x11 K),
  (specialIn K (.builtin "object.__class__") "__get__",takesIn K (.builtin "object.__class__")))
def o40.due(q:o40)(_:ü) :=
 (q.ds.map λd=>Z21 d.1 d.2,q.is.map λd=>some d.2,q.ns.map λ_=>true,q.ms.map λ_=>true,q.cs.map λx=>some (P41 x),
  (some (some (Ä.builtin "getset_descriptor.__get__")),some true))
structure Facts(q:o40)(K:Frag)(h:Heap):Prop where
 fn:∀ d∈q.ds,∃ f fd,nsIn K mainGlobals d.1=some (some (.ref f))/\Fun K d.1 d.1 d.2 f fd/\∃ oc od sl,K.lookup f=some ⟨oc,od,.func fd,sl⟩
 it:∀ d∈q.is,∃ t,nsIn K mainGlobals d.1=some (some (.int d.2 t))
 no:∀ x∈q.ns,nsIn K mainGlobals x=some none
 mt:∀ x∈q.ms,∃ T,h.get? T=some (tabObj #[])/\K.lookup T=none/\∃ f oc od fd sl c,nsIn K mainGlobals x=some (some (.ref f))/\K.lookup f=some ⟨oc,od,.func fd,sl⟩/\fd.code=.ref c/\codeHdIn K c T=true
 cl:∀ x∈q.cs,∃ C,nsIn K mainGlobals x=some (some (.ref C))/\x11 K C=P41 x
 sp:specialIn K (.builtin "object.__class__") "__get__"=some (some (Value.builtin "getset_descriptor.__get__"))
 tk:takesIn K (.builtin "object.__class__")=some true
theorem U00{α β:Type}{f g:α->β}:∀ {l:List α},l.map f=l.map g->∀ a∈l,f a=g a:=λ{l} h a ha=>List.map_inj_left.mp h a ha
theorem o40.facts(q:o40)(w:ü)(s:Æ)(e:q.obs s=q.due w):Facts q (fragOf s.heap) s.heap:=by
 unfold o40.obs o40.due at e;simp only[Ñ9] at e;obtain⟨e1,e2,e3,e4,e5,e6,e7⟩:=e;refine⟨λd hd=>Z00 (U00 e1 d hd),λd hd=>Z20 (U00 e2 d hd),λx hx=>Z40 (U00 e3 x hx),λx hx=>?_,λx hx=>?_,e6,e7⟩
 ·obtain⟨T,hT⟩:=Û3.mp (U00 e4 x hx);obtain⟨h1,h2⟩:=k81 hT;exact⟨T,h1,k71 h1 rfl,h2⟩
 ·obtain⟨C,h1,h2⟩:=Ë.mp (U00 e5 x hx);exact⟨C,J01 h1,h2⟩
def o40.hook(q:o40):Hook where
 α:=_
 obs:=q.obs
 val:=q.due
 says:=λ_ h=>∃ K:Frag,K.In h/\Facts q K h
 of:=λw s e=>⟨_,w71 _,q.facts w s e⟩
 keeps:=λ_ h h' ⟨K,X,F⟩ k=>⟨K,X.keeps k,⟨F.fn,F.it,F.no,λx hx=>let ⟨T,a,b⟩:=F.mt x hx;⟨T,k _ _ a,b⟩,F.cl,F.sp,F.tk⟩⟩
end L2
namespace Q
open PySem L2 PySem.Spec PyProof.Rows
structure Row where
 nm:Str
 ps:List Str
 st:Stmt
 N:List Str
 b:Sm
 lm:Bool
def x21(N ps:List Str)(sc:Á3):Bool:=sc.kind == .function&&!sc.isCoroutine&&!sc.isGenerator&&decide N.Nodup&&N.take ps.length == ps&&ps.all (λx=>sc.names.lookup x == some .local || sc.names.lookup x == some .cell)&&sc.names.all λy=>y.2 != .free
theorem e81(h:x21 N ps sc=true):s70 N ps sc:=by
 unfold x21 at h;simp only[À,ø,beq_iff_eq,Â6,decide_eq_true_eq,Å1] at h;obtain⟨⟨⟨⟨⟨⟨h1,h2⟩,h3⟩,h4⟩,h5⟩,h6⟩,h7⟩:=h;exact⟨h1,h2,h3,h4,h5,h6,λy hy=>by simpa using h7 y hy⟩
def P51(r:Row):Prop:=∀ (kV doc pm:Ä) (an:Option È) (cdv ct:Ä) (us:List Ä),us.length=r.ps.length->bindArgs (fnOf r.nm r.nm (J60 r.st) (o60 r.st) (c90 r.st) .none kV doc pm an cdv ct) ⟨us,[]⟩=pure (r.ps.zip us)
def p00:List Row->Prop
 |[]=>True|r::l=>P51 r/\p00 l
theorem p00.at:∀ {l:List Row}{r:Row},p00 l->r∈l->P51 r
 |_::_,_,h,.head _=>h.1|_::_,_,h,.tail _ m=>p00.at h.2 m
theorem us1(h:us.length=1):∃ a,us=[a]:=List.length_eq_one_iff.mp h
theorem us2(h:us.length=2):∃ a b,us=[a,b]:=by
 match us,h with
 |[a,b],_=>exact⟨a,b,rfl⟩
theorem us3(h:us.length=3):∃ a b c,us=[a,b,c]:=by
 match us,h with
 |[a,b,c],_=>exact⟨a,b,c,rfl⟩
def c62(fns:List (Str × List Str))(nums:List (Str × Int))(cn:List Str)(r:Row):Bool:=mtS r.lm fns nums cn (c90 r.st) r.N r.b (o60 r.st)&&isQ r.b&&r.N.all (z60 (c90 r.st))&&x21 r.N r.ps (c90 r.st)
def H00(rows:List Row):List (Str × List Str):=rows.map λr=>(r.nm,r.ps)
def tabOf(rows:List Row):List Df:=rows.map λr=>Df.code r.ps.length r.N.length r.b
def U10(rows:List Row)(nums:List (Str × Int))(cn:List Str):o40:=⟨rows.map (λr=>(r.nm,r.st)),nums,W71,[],cn⟩
def clsAt(K:Â)(cn:List Str)(c:Nat):Addr:=(k91 K (cn.getD c "")).getD 0
theorem n92{K:Â}{C:È}{cn:List Str}{c:Nat}{x:Str}(hc:cn[c]?=some x)(h:PySem.W.nsIn K ó x=some (some (.ref C))):clsAt K cn c=C:=by
 unfold clsAt;rw[Í,hc];show(k91 K x).getD 0=C;unfold k91;rw[h];rfl
section
variable {P:ã}{w:ü}{K:Â}{mg:Str->Option Ä}{base:õ}
theorem ok0(F:i31 P w K mg base (CX1 P w) k f fd ps sp):i31 P w K mg base CX0 k f fd ps (λvs H Q _=>sp vs H Q λ_ _ _=>False) :=
 ⟨λvs H Q E h=>F.len _ _ _ _ h,λA outer s H args us vs Q E hr he hb hv hs=>Ò6 (F.run A outer s H args us vs Q _ hr he hb hv hs) λr s' h=>by
  cases r with
  |error e =>
   obtain⟨_,_,_,_,_,_,_,_,_,_,_,_,_,hE⟩:=h;exact hE.elim
  |ok fl=>cases fl <;> exact h⟩
theorem Q42:TriplesOk (#[]:Array Ä).toList:=by first | trivial | (unfold TriplesOk;trivial)
theorem r90.noT[TB:Tb](h:r90 K H a xs):r90 K (hz none H) a xs:=by
 rcases h with (h | ⟨o,h⟩) | h
 ·exact .inl (.inl (d20 h (λq=>nomatch q)))
 ·exact .inl (.inr ⟨o,d20 h (λq=>nomatch q)⟩)
 ·exact .inr h
theorem o02[TB:Tb]{G:Gs}{T:List Df}{k f:Nat}{H:Hp}{a:È}{ns:List Int}(pure:b60 T k f [.d (.lst (ns.map D.int))] none=some (.ok (.d (.bl true)) none))(hH:∀ p∈TB.tb,H p.1=some (.tbl #[]))(hS:r90 K H a (ns.map V.int)) :
  spF K (lev G T k) f 1 [.ref a] H (λv _=>v=.bl true) λ_ _ _=>False:=by
 refine⟨rfl,none,none,[.d (.lst (ns.map D.int))],_,.cons ?_ .nil,⟨trivial,λp hp=>⟨#[],hH p hp,Q42,λpos c e=>nomatch e⟩⟩,pure,λv H' x st rv=>Hd.bl_ (show Hd K (hz none H') (.bl true) v from rv)⟩;show Hd K (hz none H) (.lst (ns.map D.int)) (.ref a);unfold Hd;exact⟨a,ns.map V.int,rfl,hS.noT,HdA.ints ns⟩
end
theorem o22{rows:List Row}{f:Nat}{nm:Str}{ps:List Str}(h:(H00 rows)[f]?=some (nm,ps)):∃ r∈rows,rows[f]?=some r/\r.nm=nm/\r.ps=ps:=by
 unfold H00 at h;rw[Ö] at h;obtain⟨r,h1,h2⟩:=Ë.mp h;cases h2;exact⟨r,é h1,h1,rfl,rfl⟩
section
variable [TB:Tb] {P:ã}{w:ü}{K:Â}{h:õ}{mg:Str->Option Ä}{base:õ}{rows:List Row}{nums:List (Str × Int)}{cn:List Str}
theorem Z31(Q:Facts (U10 rows nums cn) K h):∀ c x,cn[c]?=some x->PySem.W.nsIn K ó x=some (some (.ref (clsAt K cn c)))/\Í8 K (clsAt K cn c) [.type "ValueError",.type "Exception",.type "BaseException",.type "object"] "ValueError.__new__"=true:=λc x hc=>by
 obtain⟨C,h1,h2⟩:=Q.cl x (é hc);rw[n92 hc h1];exact⟨h1,h2⟩
theorem Z41(X:K.In h)(Gn:h.Ns ó mg)(Q:Facts (U10 rows nums cn) K h)(ok:rows.all (c62 (H00 rows) nums cn)=true)(bd:p00 rows)(F0:FT):∀ k,GX P w K mg base (lev ⟨H00 rows,nums,F0,clsAt K cn,0⟩ (tabOf rows) k) cn:=by
 refine n82 (λp hp=>?_) (λn hn=>?_) (λc x hc=>?_) λf nm ps hf=>?_
 ·obtain⟨t,e⟩:=Q.it p hp;exact⟨t,mg_of X Gn e⟩
 ·exact PySem.W.mg_none_of X Gn (Q.no n hn)
 ·obtain⟨h1,h3⟩:=Z31 Q c x hc;exact⟨mg_of X Gn h1,h3⟩
 ·obtain⟨r,hr,hr2,rfl,rfl⟩:=o22 hf;obtain⟨fa,fd,a1,F1,oc,od,sl,lk⟩:=Q.fn (r.nm,r.st) (Ø.mpr ⟨r,hr,rfl⟩);have rb:=ö.mp ok r hr;unfold c62 at rb;simp only[À] at rb;obtain⟨⟨⟨b1,b2⟩,b3⟩,b4⟩:=rb;refine⟨fa,fd,mg_of X Gn a1,F1.kp,F1.binds (bd.at hr),.inl ⟨r.lm,r.N,r.st,r.b,?_,F1,e81 b4,b3,b2,b1⟩⟩;unfold tabOf;rw[Ö,hr2];rfl
theorem o32(X:K.In h)(Gn:h.Ns ó mg)(Q:Facts (U10 rows nums cn) K h)(ok:rows.all (c62 (H00 rows) nums cn)=true)(bd:p00 rows)(F0:FT)(k:Nat){i:Nat}{r:Row}(hi:rows[i]?=some r){fa:È}{fd:É3}(F1:Fun K r.nm r.nm r.st fa fd):i31 P w K mg base (CX1 P w) (k + 3) fa fd r.ps (spF K (lev ⟨H00 rows,nums,F0,clsAt K cn,0⟩ (tabOf rows) (k + 3)) i r.ps.length):=by
 have hr:=é hi;have rb:=ö.mp ok r hr;unfold c62 at rb;simp only[À] at rb;obtain⟨⟨⟨b1,b2⟩,b3⟩,b4⟩:=rb;refine w41 (G:=lev ⟨H00 rows,nums,F0,clsAt K cn,0⟩ (tabOf rows) (k + 2)) (F':=P60 (tabOf rows) (k + 3)) (Z41 X Gn Q ok bd F0 (k + 2)) F1 (e81 b4) b3 b1 b2 λl z=>?_;show(match (tabOf rows)[i]? with | some d=>run (P60 (tabOf rows) (k + 2)) d l | none=>M.no) z=_
 unfold tabOf;rw[Ö,hi];rfl
end
theorem x31{P:ã}{w:ü}{K:Â}{mg mb:Str->Option Ä}{k:Nat}{fa a:È}{fd:É3}{x:Str}{sp:Sp}{s₁:Æ}{vs:List Ä}{ns:List Int}{ts:List È}
  (KX:K.In s₁.heap) (hns:s₁.heap.Ns ó mg) (hb:s₁.heap.Ns builtinsNs mb) (hbb:∀ x:Str,x≠"__name__"->mb x=í x) (hlim:s₁.heap.NoLimit) (hg:s₁.gens=#[])
  (ha:s₁.heap.get? a=some { cls:=.type "list",data:=.seq vs.toArray }) (hi:É5 vs ns) (hl:ns.length<=sizeLine) (hr:Q40 k Ù9)
  (hT:∀ Pt∈ts,s₁.heap.get? Pt=some (Ø7 #[])/\K.lookup Pt=none/\∃ c,Õ2 K c Pt=true) (bmn:BMain mg s₁.heap)
  (F:∀ base:õ,K.In base->base.Ns ó mg->BMain mg base->i31 P w K mg base CX0 k fa fd [x] sp) (hbind:∀ (s:Æ) (u:Ä),BindsTo s fd ⟨[u],[]⟩ [(x,u)])
  (hsp:∀ H:Hp,(∀ Pt∈ts,H Pt=some (.tbl #[]))->r90 K H a (ns.map V.int)->sp [.ref a] H (λv _=>v=.bl true) λ_ _ _=>False) :
  Ù8 (Ü P w) Ù9 (.call (.ref fa) ⟨[.ref a],[]⟩) (λr s'=>r=.ok (.ret (.bool true))/\OldK s₁.heap s'.heap/\s'.os=s₁.os/\Ò9 s'.gens) s₁:=by
 have rv:=R60 hi;have lenV:=hi.length;have naT:a ∉ ts:=λh=>by have:=(hT a h).1;rw[ha] at this;cases this
 have core:∀ H:Hp,(∀ Pt∈ts,H Pt=some (.tbl #[]))->(∀ b,H b=none∨b∈ts∨(b=a/\∃ xs,H b=some (.frz { cls:=.type "list",data:=.seq vs.toArray } (.lst xs))))->r90 K H a (ns.map V.int)->HOk P w H s₁.heap->(H a≠none->K.lookup a=none) ->
   Ù8 (Ü P w) Ù9 (.call (.ref fa) ⟨[.ref a],[]⟩) (λr s'=>r=.ok (.ret (.bool true))/\OldK s₁.heap s'.heap/\s'.os=s₁.os/\Ò9 s'.gens) s₁:=by
  intro H hH hO hS hok hK;have plainN:∀ {b:È}{o:Obj},s₁.heap.get? b=some o->(∀ xs n,o.data≠.seq xs n)->(∀ xs,o.data≠.fields xs)->H b=none:=λ{b o} e d1 d2=>by
   rcases hO b with z | z | ⟨z,_⟩
   ·exact z
   ·have:=(hT b z).1;rw[e] at this;cases this;exact absurd rfl (d2 _)
   ·rw[z,ha] at e;cases e;exact absurd rfl (d1 _ _)
  have nsK:∀ {b:È}{m:Str->Option Ä},s₁.heap.Ns b m->(C81 s₁.heap H).Ns b m:=λ{b m} ⟨o,es,ep,e,d,r⟩=>⟨o,es,ep,I80 e (plainN e (λxs n z=>by rw[d] at z;cases z) λxs z=>by rw[d] at z;cases z),d,r⟩
  have hKb:K.In (C81 s₁.heap H):=λb o e=>I80 (KX b o e) (by
   rcases hO b with z | z | ⟨z,xs,z2⟩
   ·exact z
   ·rw[(hT b z).2.1] at e;cases e
   ·rw[z] at e z2;rw[hK (by rw[z2];exact λy=>nomatch y)] at e;cases e)
  have hM:Mod K mg (C81 s₁.heap H):=⟨hKb,nsK hns,⟨mb,nsK hb,hbb⟩,let ⟨mc,h1,h2⟩:=hlim;⟨mc,nsK h1,h2⟩⟩;have hBM:BMain mg (C81 s₁.heap H):=by
   obtain⟨bm,ob,b1,b2,b3,b4,b5,b6⟩:=bmn;exact⟨bm,ob,b1,b2,I80 b3 (plainN b3 (λxs n z=>by rw[b6] at z;cases z) λxs z=>by rw[b6] at z;cases z),b4,b5,b6⟩
  have e0:r62 P w K mg (C81 s₁.heap H) Ù9 [] s₁ H:=⟨rfl,hM,λb o e=>Q31 e,Ö4 (m81 _ _),trivial,λb hb=>absurd (show b∈([]:List È) from hb) (by simp),hok,.of_eq hg⟩
  refine Ò6 ((F _ hKb (nsK hns) hBM).run Ù9 [] s₁ H ⟨[.ref a],[]⟩ [.ref a] [.ref a] _ _ hr e0 (hbind s₁ (.ref a)) (.cons rfl .nil) (hsp H hH hS)) λr s' h=>?_;cases r with
  |error e=>exact Ä6 h
  |ok fl =>
   cases fl with
   |next=>exact Ä6 h
   |brk=>exact Ä6 h|cont=>exact Ä6 h
   |ret u =>
    obtain⟨v,H',os,bare,un,hok',r',q⟩:=h;have q':v=.bl true:=q;subst q';obtain rfl:u=Ì7 true:=r';refine⟨rfl,⟨λb o e=>?_,λb o e=>un.there b o e (by simp)⟩,os,bare⟩
    rcases hO b with z | z | ⟨z,xs,z2⟩
    ·exact .inl (un.keep b o e z (by intro y;exact absurd (show b∈([]:List È) from y) (by simp)) (by simp))
    ·obtain⟨t1,_,c,t2⟩:=hT b z;rw[e] at t1;cases t1;obtain⟨more,m1⟩:=un.tbls b _ (hH b z);have m2:s'.heap.get? b=some { cls:=.none,data:=.fields (#[]++more) }:=hok' b _ m1;have CH:=PySem.W.codeHd_of_K KX t2;exact .inr (.inl ⟨(CH.tab e).isCodeTable,rfl,#[],more,rfl,m2⟩)
    ·have z3:=un.frzs b _ _ z2;obtain⟨e1,_⟩:=hok b _ z2;obtain⟨e2,_⟩:=hok' b _ z3;rw[e] at e1;cases e1;exact .inl e2
 cases hk:K.lookup a with
 |some o =>
  have e:=KX a o hk;rw[ha] at e;cases e;refine core (λb=>if b∈ts then some (.tbl #[]) else none) (λPt h=>if_pos h) (λb=>?_) (.inr ⟨vs.toArray,_,hk,by rw[Ô,lenV];exact hl,by simpa using rv⟩) (λb u z=>?_) λz=>absurd (if_neg naT) z
  ·by_cases h:b∈ts
   ·exact .inr (.inl h)
   ·exact .inl (if_neg h)
  ·by_cases h:b∈ts
   ·have z':=(if_pos h).symm.trans z;cases z';exact(hT b h).1
   ·have z':=(if_neg h).symm.trans z;cases z'
 |none =>
  refine core (λb=>if b=a then some (.frz { cls:=.type "list",data:=.seq vs.toArray } (.lst (ns.map V.int))) else if b∈ts then some (.tbl #[]) else none) (λPt h=>?_) (λb=>?_) (.inl (.inr ⟨{ cls:=.type "list",data:=.seq vs.toArray },if_pos rfl⟩)) (λb u z=>?_) λ_=>hk
  ·rw[if_neg (λy=>naT (by rw[← y];exact h)),if_pos h]
  ·by_cases hb:b=a
   ·exact .inr (.inr ⟨hb,_,if_pos hb⟩)
   ·by_cases h:b∈ts
    ·exact .inr (.inl h)
    ·exact .inl (by rw[if_neg hb,if_neg h])
  ·by_cases hb:b=a
   ·have z':=(if_pos hb).symm.trans z;cases z';subst hb;exact⟨ha,by rw[Ç];exact hl,vs,_,rv,ha⟩
   ·replace z:=(if_neg hb).symm.trans z
    by_cases h:b∈ts
    ·have z':=(if_pos h).symm.trans z;cases z';exact(hT b h).1
    ·have z':=(if_neg h).symm.trans z;cases z'
theorem J11{l:PySem.W.OpenLaw}{n k:Nat}{q:ã}{loose:List Str}{XP:(Str->Option Ä)->õ->Prop}{d:DefRec}{A:o40}{x:Str}
  (hn:l.most=some n) (hn2:n<=sizeLine) (hdf:d.params.defaults=[]) (hr:Q40 k Ù9)
  (F:∀ (w:ü) (mg:Str->Option Ä) (fa:È) (h:õ) (K:Â),Facts A K h->K.In h->h.Ns ó mg->mg d.name=some (.ref fa) ->
   ∃ (fd:É3) (ts:List È) (sp:Sp),(∀ Pt∈ts,h.get? Pt=some (Ø7 #[])/\K.lookup Pt=none/\∃ c,Õ2 K c Pt=true)/\(∀ (s:Æ) (u:Ä),BindsTo s fd ⟨[u],[]⟩ [(x,u)]) /\
    (∀ base:õ,K.In base->base.Ns ó mg->BMain mg base->i31 l.prog w K mg base CX0 k fa fd [x] sp) /\
    ∀ (H:Hp) (a:È) (ns:List Int),ns.length<=n->(∀ Pt∈ts,H Pt=some (.tbl #[]))->r90 K H a (ns.map V.int)->sp [.ref a] H (λv _=>v=.bl true) λ_ _ _=>False) :
  PySem.W.WalkO q loose XP A.hook.says l.row.toRowW d [] (λf vs=>PySem.call f vs):=by
 refine Att.X00 hn hdf λw s₀ s₁ mg mb fa o pm cd doc a vs ns G Y ho hd hcd hmg hobj hints hlen hg=>?_;obtain⟨K,KX,FX⟩:=Y;obtain⟨fd,ts,sp,hT,hb,hF,hsp⟩:=F w mg fa _ K FX KX G.T.g hmg;exact x31 KX G.T.g G.T.b G.T.builtins G.T.nolimit hg hobj hints (Ù hlen hn2) hr hT G.T.bmain hF hb λH hH hS=>hsp H a ns hlen hH hS
theorem Z51{l:PySem.W.OpenLaw}{rows:List Row}{nums:List (Str × Int)}{cn:List Str}{k iL n:Nat}{rL:Row}(ok:rows.all (c62 (H00 rows) nums cn)=true)(bd:p00 rows)(hL:rows[iL]?=some rL)(hn:rL.nm="law")(hp:rL.ps=[("_law_script":Str)])
  (pure:∀ ns:List Int,ns.length<=n->b60 (tabOf rows) (k + 3) iL [.d (.lst (ns.map D.int))] none=some (.ok (.d (.bl true)) none)) (w:ü) (mg:Str->Option Ä) (fa:È) (h:õ) (K:Â) (Q:Facts (U10 rows nums cn) K h) (X:K.In h) (Gn:h.Ns ó mg) (hfa:mg "law"=some (.ref fa)) :
   ∃ (fd:É3) (ts:List È) (sp:Sp),(∀ Pt∈ts,h.get? Pt=some (Ø7 #[])/\K.lookup Pt=none/\∃ c,Õ2 K c Pt=true)/\(∀ (s:Æ) (u:Ä),BindsTo s fd ⟨[u],[]⟩ [("_law_script",u)]) /\
    (∀ base:õ,K.In base->base.Ns ó mg->BMain mg base->i31 l.prog w K mg base CX0 (k + 3) fa fd ["_law_script"] sp) /\
    ∀ (H:Hp) (a:È) (ns:List Int),ns.length<=n->(∀ Pt∈ts,H Pt=some (.tbl #[]))->r90 K H a (ns.map V.int)->sp [.ref a] H (λv _=>v=.bl true) λ_ _ _=>False:=by
 have hrL:rL∈rows:=é hL;obtain⟨fL,fdL,aL,FL,ocL,odL,slL,lkL⟩:=Q.fn (rL.nm,rL.st) (Ø.mpr ⟨rL,hrL,rfl⟩);have bL:=bd.at hrL;have e:=hfa.symm.trans (mg_of X Gn (by rw[← hn];exact aL))
 cases e;have bT:∀ (s:Æ) (u:Ä),BindsTo s fdL ⟨[u],[]⟩ [("_law_script",u)]:=by
  obtain⟨_,_,kV,doc,pm,an,cdv,ct,_,e,_,_⟩:=FL.ex;subst e;intro s u;have:=bL kV doc pm an cdv ct [u] (by rw[hp];rfl)
  rw[hp] at this;exact .of_eq this
 let TB:Tb:=⟨[]⟩
 refine⟨fdL,[],λvs H Q _=>spF K (lev ⟨H00 rows,nums,λ_ _ _=>M.no,clsAt K cn,0⟩ (tabOf rows) (k + 3)) iL 1 vs H Q λ_ _ _=>False,λp hp=>(nomatch hp),bT,λbase kb nb bm=>?_,λH a ns hl hH hS=>o02 (pure ns hl) (λp hp=>nomatch hp) hS⟩;have F:=ok0 (o32 (P:=l.prog) (w:=w) (base:=base) X Gn Q ok bd (λ_ _ _=>M.no) k hL FL);rw[hp] at F;exact F
end Q
namespace Q
open L2 (D)
open PySem (Paired)
def e91:Ex->Bool
 |.var _=>false|_=>true
def Q52:Ex->Env->Option (Option S)
 |.var i,ρ=>ρ[i]?|_,_=>none
def H62:Option (Option S)->Option S
 |some (some s)=>noS s|_=>none
def blS:S->Option Bool
 |.d (.bl b)=>some b|_=>none
abbrev Du{α:Type}(_:α->Z->Prop)(_:Nat->Z->Prop):Type:=Unit
abbrev Dv{α:Type}(_:α->Prop):Type:=Unit
structure W{α:Type}(m:M α)(z:Z)(Q:α->Z->Prop)(E:Nat->Z->Prop)(du:Du Q E:=()):Prop where
 ex:∃ r,m z=some r/\match r with
  |.ok a z1=>Q a z1|.er c z1=>E c z1
theorem W_e{α:Type}{m:M α}{Q:α->Z->Prop}:W m z Q E↔∃ r,m z=some r/\match r with
  |.ok a z1=>Q a z1|.er c z1=>E c z1:=⟨W.ex,W.mk⟩
abbrev NE:Nat->Z->Prop:=λ_ _=>False
def Get{α:Type}(o:Option α)(P:α->Prop)(_:Dv P:=()):Prop:=match o with
 |some a=>P a|none=>False
theorem o42{α:Type}{a:α}{P:α->Prop}:Get (some a) P↔P a:=Iff.rfl
theorem m10{α:Type}{o:Option α}{P:α->Prop}(h:Get o P):∃ a,o=some a/\P a:=by
 cases o with
 |none=>exact h.elim|some a=>exact⟨a,rfl,h⟩
theorem a00{α:Type}{o:Option α}{a:α}{P:α->Prop}(h:o=some a)(hp:P a):Get o P:=by rw[h];exact hp
section
variable {α β:Type}{m:M α}{z z1:Z}{Q Q':α->Z->Prop}{E E':Nat->Z->Prop}
theorem W.mono(h:W m z Q E)(hq:∀ a z,Q a z->Q' a z)(he:∀ c z,E c z->E' c z):W m z Q' E':=by
 obtain⟨r,e,h⟩:=h;refine⟨r,e,?_⟩;cases r with
 |ok a z1=>exact hq _ _ h|er c z1=>exact he _ _ h
theorem W.imp(h:W m z Q NE)(hq:∀ a z,Q a z->Q' a z):W m z Q' E':=h.mono hq λ_ _ h=>h.elim
theorem W.ok{a:α}(h:W m z (λb z2=>b=a/\z2=z1) NE):m z=some (.ok a z1):=by
 obtain⟨r,e,h⟩:=h;cases r with
 |ok b z2=>obtain⟨rfl,rfl⟩:=h;exact e
 |er c z2=>exact h.elim
theorem H72{a:α}(h:m z=some (.ok a z1)):W m z Q E↔Q a z1:=by
 rw[W_e];constructor
 ·rintro ⟨r,e,q⟩;rw[h] at e;cases e;exact q
 ·exact λq=>⟨_,h,q⟩
theorem Q62{c:Nat}(h:m z=some (.er c z1)):W m z Q E↔E c z1:=by
 rw[W_e];constructor
 ·rintro ⟨r,e,q⟩;rw[h] at e;cases e;exact q
 ·exact λq=>⟨_,h,q⟩
theorem B00{a:α}:W (M.ret a) z Q E↔Q a z:=H72 rfl
theorem o52:W (M.no:M α) z Q E↔False:=⟨λ⟨_,e,_⟩=>(by cases e),Ä6⟩
theorem p10{f:α->M β}{Q:β->Z->Prop}:W (M.bind m f) z Q E↔W m z (λa z1=>W (f a) z1 Q E) E:=by
 constructor
 ·rintro ⟨r,e,q⟩;unfold M.bind at e;split at e
  ·rename_i a z1 e1;exact⟨_,e1,r,e,q⟩
  ·rename_i c z1 e1;cases e;exact⟨_,e1,q⟩
  ·cases e
 ·rintro ⟨r,e,q⟩;cases r with
  |ok a z1 =>
   obtain⟨r,e2,q⟩:=q;refine⟨r,?_,q⟩;unfold M.bind;rw[e];exact e2
  |er c z1 =>
   refine⟨.er c z1,?_,q⟩;unfold M.bind;rw[e]
theorem P61:W (M.calm m) z Q E↔W m z Q NE:=by
 rw[W_e,W_e];unfold M.calm;constructor
 ·rintro ⟨r,e,q⟩;split at e
  ·rename_i a z1 e1;cases e;exact⟨_,e1,q⟩
  ·cases e
 ·rintro ⟨r,e,q⟩;cases r with
  |ok a z1=>exact⟨.ok a z1,by rw[e],q⟩|er c z1=>exact q.elim
theorem Z61(h:∀ a z,Q a z↔Q' a z):W m z Q E↔W m z Q' E:=⟨λx=>x.mono (λa z=>(h a z).mp) λ_ _ h=>h,λx=>x.mono (λa z=>(h a z).mpr) λ_ _ h=>h⟩
theorem wR{a:α}:Q a z↔W (M.ret a) z Q E:=B00.symm
theorem wN:False↔W (M.no:M α) z Q E:=o52.symm
theorem wT{c:Prop}[Decidable c]{a b:M α}{A B:Prop}(h1:A↔W a z Q E)(h2:B↔W b z Q E):(if c then A else B)↔W (if c then a else b) z Q E:=by
 split <;> assumption
theorem wG{o:Option β}{f:β->M α}{K:β->Prop}(h:∀ a,K a↔W (f a) z Q E):Get o K↔W (M.bind (M.of o) f) z Q E:=by
 cases o with
 |none=>exact o52.symm|some a=>exact h a
theorem wB{m:M β}{f:β->M α}{V:Prop}{K:β->Z->Prop}(h1:V↔W m z K E)(h2:∀ a z1,K a z1↔W (f a) z1 Q E):V↔W (M.bind m f) z Q E:=h1.trans ((Z61 h2).trans p10.symm)
end
def Wm{α:Type}(o:Option (R α))(Q:α->Z->Prop)(E:Nat->Z->Prop):Prop:=match o with
 |some (.ok a z1)=>Q a z1|some (.er c z1)=>E c z1|none=>False
theorem wM{α:Type}{m:M α}{z:Z}{Q:α->Z->Prop}{E:Nat->Z->Prop}:Wm (m z) Q E↔W m z Q E:=by
 rw[W_e];unfold Wm;cases h:m z with
 |none=>exact⟨Ä6,λ⟨_,e,_⟩=>by cases e⟩
 |some r =>
  refine⟨λq=>⟨r,rfl,?_⟩,λ⟨_,e,q⟩=>?_⟩
  ·cases r <;> exact q
  ·cases e;cases r <;> exact q
def Vr(o:Option (Option S))(z:Z)(Q:List S->Z->Prop)(_:Du Q NE:=()):Prop:=match o with
 |some (some s)=>Q [plS s] z|_=>False
def WV:FT->Ex->Env->Z->(List S->Z->Prop)->(Nat->Z->Prop)->Prop
 |F,.nil=>λρ z Q E=>Q [] z|F,.cons a r=>λρ z Q E=>WV F a ρ z (λx z1=>Get (one x) λs=>WV F r ρ z1 (λy z2=>Q (s::y) z2) E) E|F,.con x=>λρ z Q E=>Q [.d x] z|F,.gint g i=>λρ z Q E=>Q [.d (.int i)] z|F,.tup as=>λρ z Q E=>WV F as ρ z (λl z1=>Get (plA l) λds=>if ds.length<=most then Q [.d (.tup ds)] z1 else False) E|F,.lst as=>λρ z Q E=>WV F as ρ z (λl z1=>Get (plA l) λds=>if ds.length<=most then Q [.fr ds] z1 else False) E|F,.bin o a b=>λρ z Q E=>WV F a ρ z (λx z1=>Get (pl x) λdx=>WV F b ρ z1 (λy z2=>Get (pl y) λdy=>Get (x90 o dx dy) λs=>Q [s] z2) E) E|F,.cmp o a b=>λρ z Q E=>WV F a ρ z (λx z1=>Get (pl x) λdx=>WV F b ρ z1 (λy z2=>Get (pl y) λdy=>Get (H80 o dx dy) λt=>Q [.d (.bl t)] z2) E) E|F,.neg a=>λρ z Q E=>WV F a ρ z (λx z1=>Get ((pl x).bind asI) λi=>Q [.d (.int (-i))] z1) E|F,.not a=>λρ z Q E=>WV F a ρ z (λx z1=>Get ((pl x).bind asB) λb=>Q [.d (.bl !b)] z1) E|F,.and a b=>λρ z Q E=>WV F a ρ z (λx z1=>Get ((pl x).bind asB) λc=>if c then WV F b ρ z1 (λy z2=>Get ((pl y).bind asB) λc=>Q [.d (.bl c)] z2) E else Q [.d (.bl false)] z1) E|F,.or a b=>λρ z Q E=>WV F a ρ z (λx z1=>Get ((pl x).bind asB) λc=>if c then Q [.d (.bl true)] z1 else WV F b ρ z1 (λy z2=>Get ((pl y).bind asB) λc=>Q [.d (.bl c)] z2) E) E|F,.orT a b=>λρ z Q E=>WV F a ρ z (λx z1=>Get ((pl x).bind i02) λl=>if l.isEmpty then WV F b ρ z1 (λy z2=>Get ((pl y).bind i02) λl=>Q [.d (.tup l)] z2) NE else Q [.d (.tup l)] z1) NE|F,.ite c a b=>λρ z Q E=>WV F c ρ z (λx z1=>Get ((pl x).bind asB) λc=>if c then WV F a ρ z1 Q E else WV F b ρ z1 Q E) E|F,.ch o o' a b c=>λρ z Q E=>WV F a ρ z (λx z1=>Get (pl x) λdx=>WV F b ρ z1 (λy z2=>Get (pl y) λdy=>Get (H80 o dx dy) λt=>if t then WV F c ρ z2 (λw z3=>Get (pl w) λdw=>Get (H80 o' dy dw) λt=>Q [.d (.bl t)] z3) E else Q [.d (.bl false)] z2) E) E|F,.bf f as=>λρ z Q E=>WV F as ρ z (λl z1=>Get (plA l) λds=>Get (bfD f ds) λs=>Q [s] z1) E|F,.isi t a=>λρ z Q E=>WV F a ρ z (λx z1=>Get (pl x) λx=>Q [.d (.bl (s12 t x))] z1) E|F,.idx a i=>λρ z Q E=>WV F a ρ z (λx z1=>Get (pl x) λdx=>WV F i ρ z1 (λy z2=>Get (pl y) λdy=>Get (j81 dx dy) λr=>Q [.d r] z2) E) E|F,.sl a lo hi=>λρ z Q E=>WV F a ρ z (λx z1=>Get (pl x) λdx=>WV F lo ρ z1 (λu z2=>Get (r91 u) λu=>WV F hi ρ z2 (λv z3=>Get (r91 v) λv=>Get (slD dx u v) λs=>Q [s] z3) E) E) E|F,.call f as=>λρ z Q E=>WV F as ρ z (λl z1=>W (F false f (l.map plS)) z1 (λs z2=>Q [s] z2) E) E|F,.comp own capt p it src cond el=>λρ z Q E=>WV F src ρ z (λl z1=>Get ((plA l).bind (itD it)) λxs=>if xs.length<=most then W (turns (r80 (ev F cond) (ev F el) p (æ own none++capt.map λi=>(ρ[i]?).getD none)) xs) z1 (λys z2=>Q [.fr ys] z2) NE else False) E|F,.lrng b as=>λρ z Q E=>WV F as ρ z (λl z1=>Get ((plA l).bind lrD) λxs=>Q [lrS b xs] z1) E|F,.var i=>λρ z Q E=>Vr ρ[i]? z Q|F,.zget i k=>λρ z Q E=>Wm (s01 k ρ[i]? z) Q E
def WE(F:FT)(e:Ex)(ρ:Env)(z:Z)(Q:List S->Z->Prop)(E:Nat->Z->Prop)(_:Du Q E:=()):Prop:=WV F e ρ z Q E
def WX(F:FT)(tp:Bool):Sm->Env->Z->(O->Z->Prop)->(Nat->Z->Prop)->Prop
 |.nil=>λρ z Q E=>Q (.nx ρ) z
 |.seq s r=>λρ z Q E=>WX F tp s ρ z (λo z1=>match o with
  |.nx ρ=>WX F tp r ρ z1 Q E
  |.rt s=>Q (.rt s) z1) E
 |.set p e=>λρ z Q E=>WE F e ρ z (λl z1=>Get (one l) λs=>Get (G90 p s (i90 s ρ)) λρ'=>Q (.nx ρ') z1) E|.ret e=>λρ z Q E=>if e91 e then WE F e ρ z (λl z1=>Get ((one l).bind noS) λs=>Q (.rt s) z1) E else Get (H62 (Q52 e ρ)) λs=>Q (.rt s) z|.iff c t e=>λρ z Q E=>WE F c ρ z (λx z1=>Get ((pl x).bind asB) λb=>if b then WX F tp t ρ z1 Q E else WX F tp e ρ z1 Q E) E|.exp e=>λρ z Q E=>WE F e ρ z (λl z1=>Get (one l) λ_=>Q (.nx ρ) z1) E|.rais c=>λρ z Q E=>E c z|.fr p it src b=>λρ z Q E=>WE F src ρ z (λl z1=>Get ((plA l).bind (itD it)) λxs=>W (W30 (λx ρ=>M.bind (M.of (e90 p x ρ)) λρ=>ex F tp b ρ) xs (s21 it src l ρ)) z1 Q E) E|.whl c b=>λρ z Q E=>W (N31 (ev F c) (ex F tp b) c12 ρ) z Q E|.grp i j k src=>λρ z Q E=>if i < ρ.length/\j < ρ.length/\k < ρ.length then WE F (.cons src .nil) (ρ.set i none) z (λl z1=>Get ((plA l).bind U61) λs=>Q (.rt s) z1) E else False|.zset i e=>λρ z Q E=>WE F e ρ z (λl z1=>Get ((pl l).bind asI) λv=>Wm (s41 ρ v ρ[i]? z1) Q E) E|.app i e=>λρ z Q E=>Get (ownAt ρ i) λxs=>WE F e ρ z (λl z1=>Get (pl l) λx=>if bare x=true/\xs.length < most then Q (.nx (ρ.set i (some (.fr (xs++[x]))))) z1 else False) E|.newz i f as=>λρ z Q E=>WE F (.call f as) ρ z (λl z1=>Wm (s31 tp ρ i l) Q E) E|.augi i ix e=>λρ z Q E=>Get (ownAt ρ i) λxs=>WE F ix ρ z (λj z1=>Get ((pl j).bind asI) λj=>Get (L2.atI xs j) λy=>WE F e ρ z1 (λl z2=>Get (pl l) λx=>Get ((asI x).bind λx=>(asI y).map λy=>D.int (y + x)) λv=>Get (H90 xs j v) λxs=>Q (.nx (ρ.set i (some (.fr xs)))) z2) E) E|.aug o i e=>λρ z Q E=>Get ((ρ[i]?.getD none).bind plD) λy=>WE F e ρ z (λl z1=>Get ((pl l).bind asI) λx=>Get ((asI y).bind λy=>x90 o (.int y) (.int x)) λs=>Get (G90 (.v i) s (i90 s ρ)) λρ=>Q (.nx ρ) z1) E
def WS(F:FT)(tp:Bool)(s:Sm)(ρ:Env)(z:Z)(Q:O->Z->Prop)(E:Nat->Z->Prop)(_:Du Q E:=()):Prop:=WX F tp s ρ z Q E
theorem o62:∀ (e:Ex) {F:FT}{ρ:Env}{z:Z}{Q:List S->Z->Prop}{E:Nat->Z->Prop},WV F e ρ z Q E↔W (ev F e ρ) z Q E:=by
 intro e
 induction e with
 |nil=>intros;exact wR|cons a r ha hr=>intros;exact wB ha λx z1=>wG λs=>wB hr λy z2=>wR
 |var i =>
  intro F ρ z Q E;show Vr ρ[i]? z Q↔W (match ρ[i]? with | some (some s)=>M.ret [plS s] | _=>M.no) z Q E
  generalize ρ[i]?=o
  match o with
  |some (some s)=>exact wR|some none=>exact wN|none=>exact wN
 |con x=>intros;exact wR|gint g i=>intros;exact wR|tup a ha=>intros;exact wB ha λl z1=>wG λds=>wT wR wN|lst a ha=>intros;exact wB ha λl z1=>wG λds=>wT wR wN|bin o a b ha hb=>intros;exact wB ha λx z1=>wG λdx=>wB hb λy z2=>wG λdy=>wG λs=>wR|cmp o a b ha hb=>intros;exact wB ha λx z1=>wG λdx=>wB hb λy z2=>wG λdy=>wG λs=>wR|neg a ha=>intros;exact wB ha λx z1=>wG λi=>wR|not a ha=>intros;exact wB ha λx z1=>wG λi=>wR|and a b ha hb=>intros;exact wB ha λx z1=>wG λc=>wT (wB hb λy z2=>wG λc=>wR) wR|or a b ha hb=>intros;exact wB ha λx z1=>wG λc=>wT wR (wB hb λy z2=>wG λc=>wR)|orT a b ha hb=>intros;refine Iff.trans ?_ P61.symm;exact wB ha λx z1=>wG λl=>wT (wB hb λy z2=>wG λl=>wR) wR|ite c a b hc ha hb=>intros;exact wB hc λx z1=>wG λc=>wT ha hb|ch o o' a b c ha hb hc=>intros;exact wB ha λx z1=>wG λdx=>wB hb λy z2=>wG λdy=>wG λt=>wT (wB hc λw z3=>wG λdw=>wG λt=>wR) wR|bf f a ha=>intros;exact wB ha λl z1=>wG λds=>wG λs=>wR|isi t a ha=>intros;exact wB ha λx z1=>wG λx=>wR|idx a i ha hi=>intros;exact wB ha λx z1=>wG λdx=>wB hi λy z2=>wG λdy=>wG λr=>wR|sl a l h ha hl hh=>intros;exact wB ha λx z1=>wG λdx=>wB hl λu z2=>wG λu=>wB hh λv z3=>wG λv=>wG λs=>wR|call f a ha=>intros;exact wB ha λl z1=>wB Iff.rfl λs z2=>wR|comp own capt p it src cond el hs hc he=>intros;exact wB hs λl z1=>wG λxs=>wT (wB P61.symm λys z2=>wR) wN|zget i k=>intros;exact wM (m:=s01 k _)|lrng b a ha=>intros;exact wB ha λl z1=>wG λxs=>wR
theorem c40{e:Ex}{F:FT}{ρ:Env}{z:Z}{Q:List S->Z->Prop}{E:Nat->Z->Prop}:WE F e ρ z Q E↔W (ev F e ρ) z Q E:=o62 e
theorem D42{F:FT}{tp:Bool}{ρ:Env}{e:Ex}(h:e91 e=true):ex F tp (.ret e) ρ=M.bind (ev F e ρ) λl=>M.bind (M.of ((one l).bind noS)) λs=>M.ret (.rt s):=by
 cases e with
 |var i=>cases h
 |_=>rfl
theorem o72{F:FT}{tp:Bool}:∀ (s:Sm) {ρ:Env}{z:Z}{Q:O->Z->Prop}{E:Nat->Z->Prop},WX F tp s ρ z Q E↔W (ex F tp s ρ) z Q E:=by
 intro s
 induction s with
 |nil=>intros;exact wR
 |seq s r hs hr =>
  intros;refine wB hs λo z1=>?_;cases o with
  |nx ρ=>exact hr|rt s=>exact wR
 |set p e=>intros;exact wB c40 λl z1=>wG λs=>wG λρ'=>wR
 |ret e =>
  intro ρ z Q E;show(if e91 e then _ else _)↔_;cases h:e91 e with
  |true =>
   refine(iff_of_eq (if_pos rfl)).trans ?_;rw[D42 h];exact wB c40 λl z1=>wG λs=>wR
  |false =>
   cases e with
   |var i =>
    refine(iff_of_eq (if_neg Ó)).trans ?_;show Get (H62 ρ[i]?) _↔W (match ρ[i]? with | some (some s)=>M.bind (M.of (noS s)) λs=>M.ret (O.rt s) | _=>M.no) z Q E
    generalize ρ[i]?=o
    match o with
    |some (some s)=>exact wG λs=>wR|some none=>exact wN|none=>exact wN
   |_=>cases h
 |iff c t u ht hu=>intros;exact wB c40 λx z1=>wG λc=>wT ht hu|exp e=>intros;exact wB c40 λl z1=>wG λs=>wR|rais c=>intros;exact(Q62 rfl).symm|fr p it src b ih=>intros;exact wB c40 λl z1=>wG λxs=>Iff.rfl|whl c b ih=>intros;exact Iff.rfl|grp i j k src=>intros;exact wT (wB c40 λl z1=>wG λs=>wR) wN|zset i e=>intros;exact wB c40 λl z1=>wG λv=>wM (m:=s41 _ v _)|app i e=>intros;exact wG λxs=>wB c40 λl z1=>wG λx=>wT wR wN|newz i f as=>intros;exact wB c40 λl z1=>wM (m:=λ_=>s31 tp _ i l)|augi i ix e=>intros;exact wG λxs=>wB c40 λj z1=>wG λj=>wG λy=>wB c40 λl z2=>wG λx=>wG λv=>wG λxs=>wR|aug o i e=>intros;exact wG λy=>wB c40 λl z1=>wG λx=>wG λs=>wG λρ=>wR
theorem U20:WS F tp s ρ z Q E↔W (ex F tp s ρ) z Q E:=o72 s
theorem WS.mono{s:Sm}{F:FT}{tp:Bool}{ρ:Env}{z:Z}{Q Q':O->Z->Prop}{E E':Nat->Z->Prop}(h:WS F tp s ρ z Q E)(hq:∀ a z,Q a z->Q' a z)(he:∀ c z,E c z->E' c z):WS F tp s ρ z Q' E':=U20.mpr (W.mono (U20.mp h) hq he)
theorem o82(Mid:Env->Z->Prop)(h:WS F tp s ρ z (λo z1=>match o with
  |.nx ρ=>Mid ρ z1
  |.rt s=>Q (.rt s) z1) E) (h2:∀ ρ z,Mid ρ z->WS F tp r ρ z Q E):WS F tp (.seq s r) ρ z Q E:=by
 refine WS.mono (s:=s) h (λo z1 h=>?_) λ_ _ h=>h;cases o with
 |nx ρ=>exact h2 ρ z1 h|rt s=>exact h
section
variable {T:List Df}{k f ps ns:Nat}{b:Sm}{l:List S}{z:Z}{Q:S->Z->Prop}{E:Nat->Z->Prop}
theorem o92(h:T[f]?=some (.code ps ns b))(hl:l.length=ps)(hn:ps<=ns):W (b60 T (k + 3) f l) z Q E↔WS (P60 T (k + 2)) z.isNone b (start ns (l.map plS)) z (λo z1=>match o with
  |.nx _=>Q (.d .non) (L30 z z1)
  |.rt s=>Q s (L30 z z1)) λc z1=>E c (L30 z z1):=by
 refine Iff.trans ?_ U20.symm;rw[X90,h];show W (λz=>if l.length=ps/\ps<=ns then(match ex (P60 T (k + 2)) z.isNone b (start ns (l.map plS)) z with
  |some (.ok (.nx _) z1)=>some (R.ok (S.d .non) (L30 z z1))|some (.ok (.rt s) z1)=>some (.ok s (L30 z z1))|some (.er c z1)=>some (.er c (L30 z z1))
  |none=>none) else none) z Q E↔_
 rw[W_e,W_e];constructor
 ·rintro ⟨r,e,q⟩;rw[if_pos ⟨hl,hn⟩] at e;split at e
  ·rename_i ρ z1 e1;cases e;exact⟨_,e1,q⟩
  ·rename_i s z1 e1;cases e;exact⟨_,e1,q⟩
  ·rename_i c z1 e1;cases e;exact⟨_,e1,q⟩
  ·cases e
 ·rintro ⟨r,e,q⟩;rw[if_pos ⟨hl,hn⟩,e]
  match r,q with
  |.ok (.nx ρ) z1,q=>exact⟨_,rfl,q⟩|.ok (.rt s) z1,q=>exact⟨_,rfl,q⟩|.er c z1,q=>exact⟨_,rfl,q⟩
end
section
variable {F:FT}{tp:Bool}{ρ:Env}{z:Z}{E:Nat->Z->Prop}
theorem Z50{f:D->M (Option D)}{o:D->Option D}:∀ {xs:List D}{Q:List D->Z->Prop},(∀ x∈xs,f x z=some (.ok (o x) z))->(W (turns f xs) z Q E↔Q (xs.filterMap o) z)
 |[],Q,_=>B00
 |x::r,Q,h=>by
  show W (M.bind (f x) _) z Q E↔_;rw[p10,H72 (h x É),p10,Z50 λy hy=>h y (Å _ hy),B00];rw[Á2];cases o x <;> rfl
theorem f01{f:D->M (Option D)}{I:Z->Prop}{P:D->D->Prop}:∀ {xs:List D}{z:Z}{Q:List D->Z->Prop},I z->(∀ x∈xs,∀ z,I z->W (f x) z (λo z1=>I z1/\∃ y,o=some y/\P x y) NE)->(∀ ys z1,I z1->Ã4 P xs ys->Q ys z1)->W (turns f xs) z Q E
 |[],z,Q,hi,_,q=>B00.mpr (q [] z hi .nil)
 |x::r,z,Q,hi,h,q=>by
  show W (M.bind (f x) _) z Q E;rw[p10];refine(h x É z hi).imp λo z1 ⟨hi1,y,e,hp⟩=>?_;subst e;rw[p10];refine f01 hi1 (λx' hx'=>h x' (Å _ hx')) λys z2 hi2 hps=>?_;exact B00.mpr (q _ _ hi2 (.cons hp hps))
theorem P71(I:List D->Env->Z->Prop):∀ (xs:List D) {ρ:Env}{z:Z},I xs ρ z->(∀ x r ρ z,I (x::r) ρ z->W (f x ρ) z (λo z1=>match o with
  |.nx ρ=>I r ρ z1
  |.rt s=>Q (.rt s) z1) E)->(∀ ρ z,I [] ρ z->Q (.nx ρ) z)->W (W30 f xs ρ) z Q E
 |[],ρ,z,hi,_,q=>B00.mpr (q _ _ hi)
 |x::r,ρ,z,hi,h,q=>by
  show W (M.bind (f x ρ) _) z Q E;rw[p10];refine(h x r ρ z hi).mono (λo z1 ho=>?_) λ_ _ h=>h;cases o with
  |nx ρ1=>exact P71 I r ho h q|rt s=>exact B00.mpr ho
theorem p02{c:Env->M (List S)}{f:Env->M O}{Q:O->Z->Prop}(I:Nat->Env->Z->Prop)(step:∀ n ρ z,I n ρ z->W (c ρ) z (λx z1=>Get ((pl x).bind asB) λk=>if k then W (f ρ) z1 (λo z2=>match o with
  |.nx ρ=>∃ m,m < n/\I m ρ z2
  |.rt s=>Q (.rt s) z2) E else Q (.nx ρ) z1) E):∀ (n m:Nat) {ρ:Env}{z:Z},I n ρ z->n < m->W (N31 c f m ρ) z Q E:=by
 intro n
 induction n using Nat.strongRecOn with
 |ind n ih =>
  intro m ρ z hi hm;cases m with
  |zero=>omega
  |succ m =>
   show W (M.bind (c ρ) _) z Q E;rw[p10];refine(step n ρ z hi).mono (λx z1 h=>?_) λ_ _ h=>h;obtain⟨k,e,h⟩:=m10 h;refine(wG (K:=λk=>if k=true then W (M.bind (f ρ) _) z1 Q E else W (M.ret (O.nx ρ)) z1 Q E) λk=>wT Iff.rfl Iff.rfl).mp (a00 e ?_);cases k with
   |true =>
    rw[if_pos rfl] at h ⊢;rw[p10];refine h.mono (λo z2 h=>?_) λ_ _ h=>h;cases o with
    |nx ρ1 =>
     obtain⟨j,hj,hi⟩:=h;exact ih j hj m hi ∅
    |rt s=>exact B00.mpr h
   |false =>
    rw[if_neg Ó] at h ⊢;exact B00.mpr h
end
mutual
noncomputable def cE:D->Ex
 |.tup l=>.tup (cEs l)|.lst l=>.lst (cEs l)|.int i=>if i < 0 then .neg (.con (.int (-i))) else .con (.int i)|x=>.con x
noncomputable def cEs:List D->Ex
 |[]=>.nil|x::r=>.cons (cE x) (cEs r)
end
mutual
noncomputable def okC:D->Bool
 |.tup l=>decide (l.length<=most)&&D52 l|.lst l=>decide (l.length<=most)&&D52 l|_=>true
noncomputable def D52:List D->Bool
 |[]=>true|x::r=>okC x&&D52 r
end
def cX(d:D)(_:okC d=true):Ex:=cE d
section
variable {F:FT}{ρ:Env}{z:Z}{Q:List S->Z->Prop}{E:Nat->Z->Prop}{a b c as:Ex}{p:Pat}{ρ0:Env}{x:D}{Q1:Option D->Z->Prop}
theorem x41:W (r80 (ev F .nil) (ev F a) p ρ0 x) z Q1 E↔Get (e90 p x ρ0) λρ=>WE F a ρ z (λy z1=>Get (pl y) λd=>Q1 (some d) z1) E :=
 (wG λρ=>show _↔W (M.bind (ev F a ρ) λy=>M.bind (M.of (pl y)) λy=>M.ret (some y)) z Q1 E from wB c40 λy z1=>wG λd=>wR).symm
theorem p12{l:List S}{m:M (List S)}{V:Prop}(h:V↔W (M.bind m λy=>M.bind (M.of (pl y)) λy=>M.ret (some y)) z Q1 E):(match l with | [s]=>Get (blS s) λb=>if b then V else Q1 none z | _=>l=[]/\V)↔W (match l with
  |[]=>M.bind m λy=>M.bind (M.of (pl y)) λy=>M.ret (some y)|[.d (.bl true)]=>M.bind m λy=>M.bind (M.of (pl y)) λy=>M.ret (some y)|[.d (.bl false)]=>M.ret none
  |_=>M.no) z Q1 E:=by
 match l with
 |[]=>exact⟨λx=>h.mp x.2,λx=>⟨rfl,h.mpr x⟩⟩|[.d (.bl true)]=>exact o42.trans ((iff_of_eq (if_pos rfl)).trans h)|[.d (.bl false)]=>exact o42.trans ((iff_of_eq (if_neg Ó)).trans wR)|[.d .non]=>exact wN|[.d (.int _)]=>exact wN|[.d (.str _)]=>exact wN|[.d (.tup _)]=>exact wN|[.d (.lst _)]=>exact wN|[.d .dct]=>exact wN|[.fr _]=>exact wN|[.z]=>exact wN
 |s::_::_ =>
  refine⟨λx=>(by cases x.1),λx=>?_⟩
  cases s with
  |d y =>
   cases y with
   |bl b=>cases b <;> exact(o52.mp x).elim
   |_=>exact(o52.mp x).elim
  |_=>exact(o52.mp x).elim
theorem x51:W (r80 (ev F (.cons c .nil)) (ev F a) p ρ0 x) z Q1 E↔Get (e90 p x ρ0) λρ=>WE F c ρ z (λy z1=>Get (one y) λs=>Get (blS s) λb=>if b then WE F a ρ z1 (λy z2=>Get (pl y) λd=>Q1 (some d) z2) E else Q1 none z1) E:=by
 refine Iff.symm (wG λρ=>?_);refine wB (c40 (F:=F) (e:=.cons c .nil) (ρ:=ρ) (Q:=λl z1=>match l with | [s]=>Get (blS s) λb=>if b then WE F a ρ z1 (λy z2=>Get (pl y) λd=>Q1 (some d) z2) E else Q1 none z1 | _=>l=[]/\WE F a ρ z1 (λy z2=>Get (pl y) λd=>Q1 (some d) z2) E)) λl z1=>?_
 exact p12 (wB c40 λy z1=>wG λd=>wR)
end
section
variable {α:Type}{m:M α}{z z1:Z}{Q Q':α->Z->Prop}{E:Nat->Z->Prop}
theorem Wo(h:m z=some (.ok a z1))(q:Q a z1):W m z Q E:=⟨_,h,q⟩
end
theorem o30{T:List Df}{k f ps ns:Nat}{b:Sm}{l:List S}{z:Z}{Q:S->Z->Prop}{E:Nat->Z->Prop}(h:T[f]?=some (.code ps ns b))(hl:l.length=ps)(hn:ps<=ns)(q:WS (P60 T (k + 2)) z.isNone b (start ns (l.map plS)) z (λo z1=>match o with
  |.nx _=>Q (.d .non) (L30 z z1)
  |.rt s=>Q s (L30 z z1)) λc z1=>E c (L30 z z1)):W (b60 T (k + 3) f l) z Q E:=(o92 h hl hn).mpr q
theorem ib{b:Bool}{A B:Prop}(ht:b=true->A)(hf:b=false->B):if b=true then A else B:=by
 cases b with
 |true=>exact ht rfl|false=>exact hf rfl
theorem it{b:Bool}{A B:Prop}(h:b=true)(a:A):if b=true then A else B:=by rw[if_pos h];exact a
theorem ie{b:Bool}{A B:Prop}(h:b=false)(a:B):if b=true then A else B:=by rw[h];exact a
theorem ip{c:Prop}[Decidable c]{A B:Prop}(h:c)(a:A):if c then A else B:=by rw[if_pos h];exact a
theorem x61(z:Z):L30 z z=z:=by cases z <;> rfl
theorem sd{s t:S}{z:Z}(h:s=t):s=t/\L30 z z=z:=⟨h,x61 z⟩
theorem sb(h:b=c):S.d (.bl b)=S.d (.bl c)/\L30 z z=z:=sd (by rw[h])
section
variable {F:FT}{tp:Bool}{z:Z}{E:Nat->Z->Prop}{p:Pat}
theorem M80(I:List D->Env->Z->Prop)(xs:List D)(hi:I xs ρ z)(h:∀ x r ρ z,I (x::r) ρ z->Get (e90 p x ρ) λρ=>WS F tp b ρ z (λo z1=>match o with
  |.nx ρ=>I r ρ z1
  |.rt s=>Q (.rt s) z1) E) (q:∀ ρ z,I [] ρ z->Q (.nx ρ) z):W (W30 (λx ρ=>M.bind (M.of (e90 p x ρ)) λρ=>ex F tp b ρ) xs ρ) z Q E :=
 P71 I xs hi (λx r ρ z hi=>(wG λρ=>U20).mp (h x r ρ z hi)) q
theorem p22(I:Nat->Env->Z->Prop)(n:Nat)(hi:I n ρ z)(hn:n < c12)(h:∀ n ρ z,I n ρ z->WE F c ρ z (λx z1=>Get ((pl x).bind asB) λk=>if k then WS F tp b ρ z1 (λo z2=>match o with
  |.nx ρ=>∃ m,m < n/\I m ρ z2
  |.rt s=>Q (.rt s) z2) E else Q (.nx ρ) z1) E):W (N31 (ev F c) (ex F tp b) c12 ρ) z Q E:=by
 refine p02 I (λn ρ z hi=>?_) n c12 hi hn;refine(c40.mp (h n ρ z hi)).mono (λx z1 h=>?_) λ_ _ h=>h;obtain⟨k,e,h⟩:=m10 h;refine a00 e ?_;cases k with
 |true=>exact U20.mp h|false=>exact h
variable {ρ0:Env}{cond el:Ex}{xs:List D}{Q:List D->Z->Prop}
theorem l01(o:D->D)(h:∀ x∈xs,Get (e90 p x ρ0) λρ=>WE F el ρ z (λy z1=>Get (pl y) λd=>d=o x/\z1=z) NE)(q:Q (xs.map o) z):W (turns (r80 (ev F .nil) (ev F el) p ρ0) xs) z Q E:=by
 refine(Z50 (o:=λx=>some (o x)) λx hx=>?_).mpr ?_
 ·refine W.ok (x41.mpr ?_);obtain⟨ρ,e,h⟩:=m10 (h x hx);refine a00 e (c40.mpr ((c40.mp h).imp λy z1 h=>?_));obtain⟨d,e,rfl,rfl⟩:=m10 h;exact a00 e ⟨rfl,rfl⟩
 ·rw[show xs.filterMap (λx=>some (o x))=xs.map o from congrFun (List.filterMap_eq_map (f:=o)) xs];exact q
theorem D62{c:D->Bool}{o:D->D}:∀ xs:List D,xs.filterMap (λx=>if c x then some (o x) else none)=(xs.filter c).map o
 |[]=>rfl
 |x::r=>by
  rw[Á2,List.filter_cons];cases hc:c x with
  |false=>exact D62 r|true=>exact congrArg (o x::·) (D62 r)
theorem s62(c:D->Bool)(o:D->D)(h:∀ x∈xs,Get (e90 p x ρ0) λρ=>WE F cond ρ z (λy z1=>Get (one y) λs=>s=.d (.bl (c x))/\z1=z/\(c x=true->WE F el ρ z (λy z1=>Get (pl y) λd=>d=o x/\z1=z) NE)) NE)(q:Q ((xs.filter c).map o) z):W (turns (r80 (ev F (.cons cond .nil)) (ev F el) p ρ0) xs) z Q E:=by
 refine(Z50 (o:=λx=>if c x then some (o x) else none) λx hx=>?_).mpr ?_
 ·refine W.ok (x51.mpr ?_);obtain⟨ρ,e,h⟩:=m10 (h x hx);refine a00 e (c40.mpr ((c40.mp h).imp λy z1 h=>?_));obtain⟨s,e,rfl,rfl,h⟩:=m10 h;refine a00 e ?_;show if c x=true then _ else _;cases hc:c x with
  |false=>exact⟨rfl,rfl⟩
  |true =>
   refine c40.mpr ((c40.mp (h hc)).imp λy z1 h=>?_);obtain⟨d,e,rfl,rfl⟩:=m10 h;exact a00 e ⟨rfl,rfl⟩
 ·rw[D62];exact q
theorem p32{I:Z->Prop}(o:D->D):∀ {xs:List D}{z:Z}{Q:List D->Z->Prop},I z->(∀ x∈xs,∀ z,I z->Get (e90 p x ρ0) λρ=>WE F cond ρ z (λy z1=>Get (one y) λs=>I z1/\∃ b,s=.d (.bl b)/\(b=true->WE F el ρ z1 (λy z2=>Get (pl y) λd=>d=o x/\z2=z1) NE)) NE) ->
  (∀ ys z1,I z1->ys.Sublist (xs.map o)->Q ys z1)->W (turns (r80 (ev F (.cons cond .nil)) (ev F el) p ρ0) xs) z Q E
 |[],z,Q,hi,_,q=>B00.mpr (q [] z hi .slnil)
 |x::r,z,Q,hi,h,q=>by
  show W (M.bind (r80 _ _ p ρ0 x) _) z Q E;refine p10.mpr (x51.mpr ?_);obtain⟨ρ,e,h0⟩:=m10 (h x É z hi);refine a00 e (c40.mpr ((c40.mp h0).imp λy z1 h1=>?_));obtain⟨s,e,hi1,b,rfl,h2⟩:=m10 h1;refine a00 e ?_;show if b=true then _ else _;have hr:=λ{Q:List D->Z->Prop} (q:∀ ys z1,I z1->ys.Sublist (r.map o)->Q ys z1)=>p32 o (z:=z1) hi1 (λy hy=>h y (Å _ hy)) q;cases b with
  |false=>exact p10.mpr (hr λys z2 hi2 hs=>B00.mpr (q ys z2 hi2 (hs.cons _)))
  |true =>
   refine c40.mpr ((c40.mp (h2 rfl)).imp λy z2 h3=>?_);obtain⟨d,e,rfl,rfl⟩:=m10 h3;exact a00 e (p10.mpr (hr λys z2 hi2 hs=>B00.mpr (q _ z2 hi2 (hs.cons_cons _))))
theorem H82{I:Z->Prop}{P:D->D->Prop}(hi:I z)(h:∀ x∈xs,∀ z,I z->Get (e90 p x ρ0) λρ=>WE F el ρ z (λy z1=>Get (pl y) λd=>I z1/\P x d) NE)(q:∀ ys z1,I z1->Ã4 P xs ys->Q ys z1):W (turns (r80 (ev F .nil) (ev F el) p ρ0) xs) z Q E:=by
 refine f01 hi (λx hx z hz=>x41.mpr ?_) q;obtain⟨ρ,e,h⟩:=m10 (h x hx z hz);refine a00 e (c40.mpr ((c40.mp h).imp λy z1 h=>?_));obtain⟨d,e,h⟩:=m10 h;exact a00 e ⟨h.1,d,rfl,h.2⟩
end
theorem f11{s:S}{ρ:Env}(h:k01 s=true):i90 s ρ=ρ:=by
 unfold i90;rw[S40,h];rfl
theorem x71{F:FT}{tp:Bool}{p:Pat}{e:Ex}{r:Sm}{ρ:Env}{z:Z}{Q:O->Z->Prop}{E:Nat->Z->Prop}(s:S)(ρ':Env)(he:WE F e ρ z (λl z1=>Get (one l) λt=>t=s/\z1=z) NE)(hb:G90 p s (i90 s ρ)=some ρ')(q:WS F tp r ρ' z Q E):WS F tp (.seq (.set p e) r) ρ z Q E:=by
 show WE F e ρ z (λl z1=>Get (one l) λs=>Get (G90 p s (i90 s ρ)) λρ'=>WX F tp r ρ' z1 Q E) E;refine c40.mpr ((c40.mp he).imp λl z1 h=>?_);obtain⟨t,e,rfl,rfl⟩:=m10 h;exact a00 e (a00 hb q)
end Q
namespace K3
open PySem L2 Q
def top(i:Nat):Stmt:=ù.main.body.getD i (.Pass ⟨0,0,0,0⟩)
def nums:List (Str × Int):=[(("MOST_PLACES":Str),(6:Int)),(("MOST_TIES":Str),(8:Int)),(("MOST_BOTTOM":Str),(1000:Int))]
abbrev v0:Ex:=.var 0
abbrev v1:Ex:=.var 1
abbrev v2:Ex:=.var 2
abbrev v3:Ex:=.var 3
abbrev v4:Ex:=.var 4
abbrev v5:Ex:=.var 5
abbrev v6:Ex:=.var 6
abbrev v7:Ex:=.var 7
abbrev v8:Ex:=.var 8
abbrev v9:Ex:=.var 9
abbrev v10:Ex:=.var 10
abbrev v11:Ex:=.var 11
abbrev v12:Ex:=.var 12
abbrev v13:Ex:=.var 13
abbrev n0:Ex:=.con (.int 0)
abbrev n1:Ex:=.con (.int 1)
abbrev n2:Ex:=.con (.int 2)
abbrev c1(a:Ex):Ex:=.cons a .nil
abbrev c2(a b:Ex):Ex:=.cons a (.cons b .nil)
abbrev c3(a b c:Ex):Ex:=.cons a (.cons b (.cons c .nil))
abbrev c4(a b c d:Ex):Ex:=.cons a (.cons b (.cons c (.cons d .nil)))
abbrev c5(a b c d e:Ex):Ex:=.cons a (.cons b (.cons c (.cons d (.cons e .nil))))
abbrev s1(a:Sm):Sm:=.seq a .nil
abbrev p2(a b:Pat):Pat:=.tup (.cons a (.cons b .nil))
abbrev h00:Nat:=0
abbrev B90:Nat:=1
abbrev m20:Nat:=2
abbrev q90:Nat:=3
abbrev f21:Nat:=4
abbrev I30:Nat:=5
abbrev f31:Nat:=6
abbrev x81:Nat:=7
abbrev f60:Nat:=8
abbrev f41:Nat:=9
abbrev j40:Nat:=10
abbrev t40:Nat:=11
abbrev f80:Nat:=12
abbrev y50:Nat:=13
abbrev F00:Nat:=14
abbrev p20:Nat:=15
abbrev F10:Nat:=16
abbrev w80:Nat:=17
abbrev f00:Nat:=18
abbrev r00:Nat:=19
abbrev z70:Nat:=20
abbrev f51:Nat:=21
abbrev t50:Nat:=22
abbrev P81:Nat:=23
abbrev i20:Nat:=24
abbrev w90:Nat:=25
abbrev k50:Nat:=26
abbrev p30:Nat:=27
abbrev t60:Nat:=28
abbrev p40:Nat:=29
abbrev s40:Nat:=30
abbrev z80:Nat:=31
abbrev b00:Nat:=32
abbrev I40:Nat:=33
abbrev f10:Nat:=34
abbrev m90:Nat:=35
abbrev s50:Nat:=36
abbrev x00:Nat:=37
abbrev F20:Nat:=38
abbrev c50:Nat:=39
abbrev z90:Nat:=40
abbrev p42:Nat:=41
def h40:Sm:=(.seq (.whl (.cmp .gt v1 n0) (s1 (.set (p2 (.v 0) (.v 1)) (.tup (c2 v1 (.bin .mod v0 v1)))))) (s1 (.ret v0)))
def M90:Sm:=(.seq (.set (.v 2) (.call h00 (c2 v0 v1))) (s1 (.ret (.tup (c2 (.bin .fdiv v0 v2) (.bin .fdiv v1 v2))))))
def I50:Sm:=(s1 (.ret (.and (.isi .int v0) (.not (.isi .bool v0)))))
def y60:Sm:=(s1 (.ret (.and (.call m20 (c1 v0)) (.ch .le .lt n0 v0 v1))))
def N00:Sm:=(.seq (.iff (.or (.not (.isi .tuple v0)) (.cmp .ne (.bf .len (c1 v0)) n2)) (s1 (.ret (.con (.bl false)))) .nil) (.seq (.set (p2 (.v 2) (.v 3)) v0) (s1 (.ret (.and (.call q90 (c2 v2 v1)) (.and (.call q90 (c2 v3 v1)) (.cmp .lt v2 v3)))))))
def y70:Sm:=(.seq (.iff (.or (.not (.isi .tuple v0)) (.cmp .gt (.bf .len (c1 v0)) (.gint "MOST_TIES" 8))) (s1 (.ret (.con (.bl false)))) .nil) (.seq (.iff (.not (.bf .all (c1 (.comp 1 [1] (.v 0) .seq (c1 v0) .nil (.call f21 (c2 v0 v1)))))) (s1 (.ret (.con (.bl false)))) .nil) (s1 (.ret (.bf .all (c1 (.comp 2 [] (p2 (.v 0) (.v 1)) .zip (c2 v0 (.sl v0 (c1 n1) .nil)) .nil (.cmp .le v0 v1))))))))
def N10:Sm:=(.seq (.iff (.or (.not (.isi .tuple v0)) (.cmp .ne (.bf .len (c1 v0)) n2)) (s1 (.ret (.con (.bl false)))) .nil) (.seq (.set (p2 (.v 1) (.v 2)) v0) (s1 (.ret (.and (.call m20 (c1 v1)) (.and (.ch .le .le n1 v1 (.gint "MOST_PLACES" 6)) (.call I30 (c2 v2 v1))))))))
def Z60:Sm:=(s1 (.ret (.bf .all (c1 (.comp 2 [] (p2 (.v 0) (.v 1)) .zip (c2 v0 (.sl v0 (c1 n1) .nil)) .nil (.cmp .lt v0 v1))))))
def f70:Sm:=(.seq (.iff (.not (.isi .tuple v0)) (s1 (.ret (.con (.bl false)))) .nil) (s1 (.ret (.and (.bf .all (c1 (.comp 1 [1] (.v 0) .seq (c1 v0) .nil (.call q90 (c2 v0 v1))))) (.call x81 (c1 v0))))))
def N20:Sm:=(s1 (.ret (.call f60 (c2 v1 (.bf .len (c1 (.idx v0 n1)))))))
def t70:Sm:=(s1 (.iff (.not (.call f31 (c1 v0))) (s1 (.rais 0)) .nil))
def t80:Sm:=(s1 (.iff (.not (.call f41 (c2 v0 v1))) (s1 (.rais 1)) .nil))
def l20:Sm:=(s1 (.iff (.or (.not (.call f60 (c2 v1 (.idx v0 n0)))) (.cmp .eq (.bf .len (c1 v1)) n0)) (s1 (.rais 2)) .nil))
def y80:Sm:=(.seq (.set (p2 (.v 2) (.v 3)) v0) (.seq (.set (.v 4) (.lrng false (c1 v2))) (.seq (.fr (.v 5) .seq (c1 v1) (.seq (.set (p2 (.v 6) (.v 7)) (.idx v3 v5)) (.seq (.set (.v 8) (.idx v4 v6)) (.seq (.set (.v 9) (.idx v4 v7)) (s1 (.set (.v 4) (.comp 1 [8,9] (.v 0) .seq (c1 v4) .nil (.ite (.cmp .eq v0 v2) v1 v0)))))))) (s1 (.ret v4)))))
def t90:Sm:=(.seq (.exp (.call j40 (c1 v0))) (.seq (.exp (.call t40 (c2 v0 v1))) (.grp 2 3 4 (.call y50 (c2 v0 v1)))))
def p50:Sm:=(.seq (.set (.v 3) (.call y50 (c2 v0 v1))) (s1 (.ret (.bf .all (c1 (.comp 1 [2,3] (.v 0) .seq (c1 v2) .nil (.cmp .eq (.idx v2 v0) (.idx v2 (.idx v1 n0)))))))))
def u00:Sm:=(.seq (.iff (.or (.not (.isi .tuple v0)) (.cmp .ne (.bf .len (c1 v0)) n2)) (s1 (.ret (.con (.bl false)))) .nil) (.seq (.set (p2 (.v 1) (.v 2)) v0) (.seq (.iff (.or (.not (.call m20 (c1 v1))) (.not (.call m20 (c1 v2)))) (s1 (.ret (.con (.bl false)))) .nil) (.seq (.iff (.or (.not (.ch .le .le n1 v2 (.gint "MOST_BOTTOM" 1000))) (.not (.ch .le .le n0 v1 v2))) (s1 (.ret (.con (.bl false)))) .nil) (s1 (.ret (.cmp .eq (.call h00 (c2 v1 v2)) n1)))))))
def n00:Sm:=(.seq (.exp (.call j40 (c1 v0))) (.seq (.iff (.or (.not (.isi .tuple v1)) (.cmp .ne (.bf .len (c1 v1)) (.bf .len (c1 (.idx v0 n1))))) (s1 (.ret (.con (.bl false)))) .nil) (s1 (.ret (.bf .all (c1 (.comp 1 [] (.v 0) .seq (c1 v1) .nil (.call F10 (c1 v0)))))))))
def j50:Sm:=(s1 (.iff (.not (.call w80 (c2 v0 v1))) (s1 (.rais 6)) .nil))
def r10:Sm:=(.seq (.set (.v 1) (cX (.lst [(.tup [])]) (-0))) (.seq (.fr (.v 2) .rng1 (c1 (.bf .len (c1 (.idx v0 n1)))) (s1 (.set (.v 1) (.bin .add v1 (.comp 1 [2] (.v 0) .seq (c1 v1) .nil (.bin .add v0 (.tup (c1 v1)))))))) (s1 (.ret (.bf .sorted (c1 v1))))))
def p60:Sm:=(s1 (.ret (.bf .tuple (c1 (.comp 1 [1] (.v 0) .rng1 (c1 (.bf .len (c1 (.idx v0 n1)))) (c1 (.cmp .nmem v0 v1)) v0)))))
def N30:Sm:=(s1 (.ret (.not (.call p20 (c3 v0 (.call z70 (c2 v0 v1)) v2)))))
def u10:Sm:=(.seq (.exp (.call j40 (c1 v0))) (.seq (.exp (.call f80 (c2 v0 v1))) (s1 (.ret (.comp 1 [0,1] (.v 0) .seq (c1 (.call r00 (c1 v0))) (c1 (.call p20 (c3 v1 v0 v2))) v0)))))
def x91:Sm:=(.seq (.exp (.call j40 (c1 v0))) (.seq (.exp (.call f80 (c2 v0 v1))) (s1 (.ret (.comp 1 [0,1] (.v 0) .seq (c1 (.call r00 (c1 v0))) (c1 (.call f51 (c3 v1 v0 v2))) v0)))))
def n10:Sm:=(.seq (.set (.v 1) n1) (.seq (.fr (.v 2) .seq (c1 v0) (s1 (.aug .mul 1 (.idx v2 n1)))) (s1 (.ret v1))))
def F30:Sm:=(.seq (.set (.v 2) n1) (.seq (.fr (p2 (.v 3) (p2 (.v 4) (.v 5))) .enum (c1 v0) (s1 (.aug .mul 2 (.ite (.cmp .mem v3 v1) v4 (.bin .sub v5 v4))))) (s1 (.ret v2))))
def p70:Sm:=(.seq (.exp (.call f00 (c2 v0 v1))) (.seq (.exp (.call t40 (c2 v0 v2))) (s1 (.ret (.call B90 (c2 (.call w90 (c2 v1 v2)) (.call i20 (c1 v1))))))))
def p80:Sm:=(s1 (.ret (.call B90 (c2 (.bf .sum (c1 (.comp 1 [0] (.v 0) .seq (c1 v1) .nil (.call w90 (c2 v1 v0))))) (.call i20 (c1 v0))))))
def Z70:Sm:=(.seq (.exp (.call f00 (c2 v0 v1))) (.seq (.exp (.call f80 (c2 v0 v2))) (s1 (.ret (.call p30 (c2 v1 (.call t50 (c2 v0 v2))))))))
def j60:Sm:=(.seq (.exp (.call f00 (c2 v0 v1))) (.seq (.set (.v 2) (.bin .mul (cX (.lst [(.int 0)]) (-0)) (.idx v0 n0))) (.seq (.fr (.v 3) .seq (c1 (.call r00 (c1 v0))) (s1 (.augi 2 (.bin .sub (.bf .len (c1 (.call F00 (c2 v0 v3)))) n1) (.call w90 (c2 v1 v3))))) (.seq (.set (.v 4) (.call i20 (c1 v1))) (s1 (.ret (.comp 1 [4] (.v 0) .seq (c1 v2) .nil (.call B90 (c2 v0 v1)))))))))
def f90:Sm:=(.seq (.iff (.cmp .lt v1 (.bf .len (c1 v0))) (s1 (.ret (.idx v0 v1))) .nil) (s1 (.ret n0)))
def k60:Sm:=(.seq (.set (.v 2) (.call s40 (c2 v0 v1))) (.seq (.iff (.cmp .ge v2 (.bin .pow (.con (.int 10)) (.con (.int 18)))) (s1 (.ret (.lst (c2 (.bin .sub v2 (.bin .pow (.con (.int 10)) (.con (.int 18)))) (.con (.bl true)))))) .nil) (s1 (.ret (.lst (c2 (.bin .mod v2 (.con (.int 2147483647))) (.con (.bl false))))))))
def u20:Sm:=(.seq (.iff (.zget 0 1) (.seq (.set (.v 2) (.bin .mod (.zget 0 0) v1)) (.seq (.zset 0 (.bin .fdiv (.zget 0 0) v1)) (s1 (.ret v2)))) .nil) (.seq (.zset 0 (.bin .mod (.bin .add (.bin .mul (.zget 0 0) (.con (.int 48271))) (.con (.int 29))) (.con (.int 2147483647)))) (.seq (.set (.v 3) (.bin .mod (.bin .add (.bin .add (.bin .mul (.zget 0 0) (.zget 0 0)) (.bin .mul (.con (.int 39373)) (.zget 0 0))) (.con (.int 7))) (.con (.int 2147483629)))) (.seq (.set (.v 3) (.bin .mod (.bin .add (.bin .mul v3 v3) (.bin .mul (.con (.int 16807)) v3)) (.con (.int 2147483587)))) (s1 (.ret (.bin .mod (.bin .fdiv v3 (.con (.int 8))) v1)))))))
def y90:Sm:=(.seq (.set (.v 2) (.idx (cX (.lst [(.int 6),(.int 5),(.int 4),(.int 3),(.int 4),(.int 5),(.int 2),(.int 1)]) (-0)) (.call b00 (c2 v0 (.con (.int 8)))))) (.seq (.set (.v 3) (.lst .nil)) (.seq (.iff (.and (.cmp .gt v2 n1) (.cmp .gt (.call b00 (c2 v0 (.con (.int 5)))) n0)) (s1 (.set (.v 3) (.comp 1 [0] (.v 0) .rng2 (c2 n1 v2) .nil (.tup (c2 (.call b00 (c2 v1 v0)) v0))))) .nil) (.seq (.fr (.v 4) .rng1 (c1 (.bin .mul (.call b00 (c2 v0 (.bin .add v1 n1))) (.bf .int (c1 (.cmp .gt v2 n1))))) (.seq (.set (.v 5) (.call b00 (c2 v0 v2))) (.seq (.set (.v 6) (.bin .mod (.bin .add (.bin .add v5 n1) (.call b00 (c2 v0 (.bin .sub v2 n1)))) v2)) (s1 (.app 3 (.tup (c2 (.bf .min (c2 v5 v6)) (.bf .max (c2 v5 v6))))))))) (s1 (.ret (.tup (c2 v2 (.bf .tuple (c1 (.bf .sorted (c1 (.sl v3 .nil (c1 v1))))))))))))))
def n20:Sm:=(.seq (.set (p2 (.v 2) (.v 3)) (.tup (c2 v0 v1))) (.seq (.whl (.cmp .ne v3 n0) (s1 (.set (p2 (.v 2) (.v 3)) (.tup (c2 v3 (.bin .mod v2 v3)))))) (s1 (.ret (.tup (c2 (.bin .fdiv v0 v2) (.bin .fdiv v1 v2)))))))
def n30:Sm:=(.seq (.set (.v 1) (cX (.lst [(.tup [(.int 1),(.int 2)]),(.tup [(.int 2),(.int 3)]),(.tup [(.int 1),(.int 3)]),(.tup [(.int 3),(.int 4)]),(.tup [(.int 9),(.int 10)]),(.tup [(.int 0),(.int 1)]),(.tup [(.int 1),(.int 1)]),(.tup [(.int 1),(.int 1000)]),(.tup [(.int 999),(.int 1000)])]) (-0))) (.seq (.set (.v 2) (.call b00 (c2 v0 (.con (.int 16))))) (.seq (.iff (.cmp .lt v2 (.con (.int 9))) (s1 (.ret (.idx v1 v2))) .nil) (.seq (.set (.v 3) (.bin .add n1 (.call b00 (c2 v0 (.idx (cX (.lst [(.int 12),(.int 1000)]) (-0)) (.call b00 (c2 v0 n2))))))) (s1 (.ret (.call f10 (c2 (.call b00 (c2 v0 (.bin .add v3 n1))) v3))))))))
def l30:Sm:=(s1 (.ret (.bf .tuple (c1 (.comp 1 [0] (.v 0) .seq (c1 (.idx v1 n1)) .nil (.call m90 (c1 v1)))))))
def n40:Sm:=(.seq (.set (.v 2) (.call b00 (c2 v0 (.con (.int 4))))) (.seq (.iff (.or (.cmp .lt v2 n2) (.cmp .eq (.idx v1 n0) n1)) (s1 (.ret (.lrng true (c1 (.idx v1 n0))))) .nil) (.seq (.iff (.cmp .eq v2 n2) (.seq (.set (.v 3) (.call b00 (c2 v0 (.idx v1 n0)))) (s1 (.ret (.bf .tuple (c1 (.bf .sorted (c1 (.lst (c2 v3 (.bin .mod (.bin .add (.bin .add v3 n1) (.call b00 (c2 v0 (.bin .sub (.idx v1 n0) n1)))) (.idx v1 n0))))))))))) .nil) (s1 (.ret (.orT (.bf .tuple (c1 (.comp 1 [0] (.v 0) .rng1 (c1 (.idx v1 n0)) (c1 (.cmp .eq (.call b00 (c2 v1 n2)) n1)) v0))) (.tup (c1 (.bin .sub (.idx v1 n0) n1)))))))))
def F40:Sm:=(.seq (.set (.v 1) (cX (.lst [(.tup [])]) (-0))) (.seq (.fr (.v 2) .rng1 (c1 (.bf .len (c1 (.idx v0 n1)))) (s1 (.set (.v 1) (.bin .add v1 (.comp 1 [2] (.v 0) .seq (c1 v1) .nil (.bin .add v0 (.tup (c1 v1)))))))) (s1 (.ret (.bf .sorted (c1 v1))))))
def p90:Sm:=(.seq (.set (p2 (.v 1) (.v 2)) (cX (.tup [(.int 0),(.int 1)]) (-0))) (.seq (.fr (.v 3) .seq (c1 v0) (.seq (.set (p2 (.v 1) (.v 2)) (.tup (c2 (.bin .add (.bin .mul v1 (.idx v3 n1)) (.bin .mul (.idx v3 n0) v2)) (.bin .mul v2 (.idx v3 n1))))) (s1 (.set (p2 (.v 1) (.v 2)) (.call f10 (c2 v1 v2)))))) (s1 (.ret (.tup (c2 v1 v2))))))
def k70:Sm:=(.seq (.set (.v 3) (.lrng true (c1 (.idx v0 n0)))) (.seq (.set (.v 4) (.call t60 (c3 v0 v1 v2))) (.seq (.iff (.cmp .ne (.call c50 (c1 (.comp 1 [0,1] (.v 0) .seq (c1 (.call t50 (c2 v0 v2))) .nil (.call k50 (c3 v1 v2 v0))))) v4) (s1 (.ret (.con (.bl false)))) .nil) (.seq (.set (.v 5) (.lst .nil)) (.seq (.fr (.v 6) .seq (c1 (.call P81 (c2 v0 v2))) (s1 (.app 5 (.bf .tuple (c1 (.comp 1 [6] (.v 0) .rng1 (c1 (.bf .len (c1 (.idx v0 n1)))) (c1 (.cmp .nmem v0 v1)) v0)))))) (.seq (.set (.v 7) (.call c50 (c1 (.comp 1 [0,1] (.v 0) .seq (c1 v5) .nil (.call k50 (c3 v1 v2 v0)))))) (.seq (.iff (.cmp .ne (.call c50 (c1 (.lst (c2 v4 v7)))) (cX (.tup [(.int 1),(.int 1)]) (-0))) (s1 (.ret (.con (.bl false)))) .nil) (.seq (.set (p2 (.v 8) (.v 9)) (.tup (c2 (.call p40 (c2 v0 v1)) (.call t60 (c3 v0 v1 v3))))) (.seq (.iff (.or (.cmp .ne (.call c50 (c1 v8)) (cX (.tup [(.int 1),(.int 1)]) (-0))) (.or (.cmp .ne (.idx v8 n0) v9) (.cmp .ne (.bf .len (c1 v8)) (.idx v0 n0)))) (s1 (.ret (.con (.bl false)))) .nil) (s1 (.ret (.and (.cmp .le (.bin .mul (.idx v9 n0) (.idx v4 n1)) (.bin .mul (.idx v4 n0) (.idx v9 n1))) (.ch .le .le n0 (.idx v4 n0) (.idx v4 n1))))))))))))))
def J21:Sm:=(.seq (.fr (.v 1) .rng1 (c1 (.bf .max (c2 n1 (.bf .min (c2 (.bf .len (c1 v0)) (.con (.int 3))))))) (.seq (.newz 2 z80 (c2 v0 v1)) (.seq (.set (.v 3) (.call I40 (c2 v2 (.con (.int 7))))) (.seq (.set (p2 (.v 4) (.v 5)) (.tup (c2 (.call s50 (c2 v2 v3)) (.call x00 (c2 v2 v3))))) (.seq (.iff (.not (.call z90 (c3 v3 v4 v5))) (s1 (.ret (.con (.bl false)))) .nil) (.seq (.iff (.cmp .ne (.call c50 (c1 (.comp 1 [3,4] (.v 0) .seq (c1 (.call F20 (c1 v3))) .nil (.call k50 (c3 v1 v2 v0))))) (cX (.tup [(.int 1),(.int 1)]) (-0))) (s1 (.ret (.con (.bl false)))) .nil) (.seq (.set (.v 6) (.call t60 (c3 v3 v4 v5))) (s1 (.iff (.cmp .ne (.idx v3 n1) (.tup .nil)) (.seq (.set (.v 7) (.call b00 (c2 v2 (.bf .len (c1 (.idx v3 n1)))))) (.seq (.set (.v 8) (.tup (c2 (.idx v3 n0) (.bin .add (.bin .add (.sl (.idx v3 n1) .nil (c1 v7)) (.sl (.idx v3 n1) (c1 v7) (c1 (.bin .add v7 n1)))) (.sl (.idx v3 n1) (c1 v7) .nil))))) (.seq (.set (.v 9) (.call t60 (c3 v8 (.bin .add (.bin .add (.sl v4 .nil (c1 v7)) (.tup (c1 (.call m90 (c1 v2))))) (.sl v4 (c1 v7) .nil)) v5))) (.seq (.iff (.cmp .lt (.bin .mul (.idx v9 n0) (.idx v6 n1)) (.bin .mul (.idx v6 n0) (.idx v9 n1))) (s1 (.ret (.con (.bl false)))) .nil) (.seq (.set (.v 10) (.call t60 (c3 v3 (.bin .add (.bin .add (.sl v4 .nil (c1 v7)) (cX (.tup [(.tup [(.int 0),(.int 1)])]) (-0))) (.sl v4 (c1 (.bin .add v7 n1)) .nil)) v5))) (.seq (.set (.v 11) (.call t60 (c3 v3 (.bin .add (.bin .add (.sl v4 .nil (c1 v7)) (cX (.tup [(.tup [(.int 1),(.int 1)])]) (-0))) (.sl v4 (c1 (.bin .add v7 n1)) .nil)) v5))) (.seq (.set (p2 (.v 12) (.v 13)) (.idx v4 v7)) (.seq (.set (.v 14) (.lst (c1 (.call f10 (c2 (.bin .mul v12 (.idx v11 n0)) (.bin .mul v13 (.idx v11 n1))))))) (.seq (.app 14 (.call f10 (c2 (.bin .mul (.bin .sub v13 v12) (.idx v10 n0)) (.bin .mul v13 (.idx v10 n1))))) (s1 (.iff (.cmp .ne (.call c50 (c1 (.var 14))) v6) (s1 (.ret (.con (.bl false)))) .nil))))))))))) .nil))))))))) (s1 (.ret (.con (.bl true)))))
def rows:List Row:=[(⟨"common_divisor",["one","other"],top 7,["one","other"],h40,false⟩:Row),
 (⟨"lowest",["top","bottom"],top 8,["top","bottom","divisor"],M90,false⟩:Row),
 (⟨"is_whole",["thing"],top 12,["thing"],I50,false⟩:Row),
 (⟨"is_below",["thing","many"],top 13,["thing","many"],y60,false⟩:Row),
 (⟨"is_tie",["thing","many"],top 14,["thing","many","a","b"],N00,false⟩:Row),
 (⟨"are_ties",["thing","many"],top 15,["thing","many"],y70,false⟩:Row),
 (⟨"is_web",["thing"],top 16,["thing","many","ties"],N10,false⟩:Row),
 (⟨"rises",["things"],top 17,["things"],Z60,false⟩:Row),
 (⟨"is_rising_below",["thing","many"],top 18,["thing","many"],f70,false⟩:Row),
 (⟨"is_lot",["web","thing"],top 19,["web","thing"],N20,false⟩:Row),
 (⟨"check_web",["thing"],top 20,["thing"],t70,false⟩:Row),
 (⟨"check_lot",["web","thing"],top 21,["web","thing"],t80,false⟩:Row),
 (⟨"check_places",["web","thing"],top 22,["web","thing"],l20,false⟩:Row),
 (⟨"marks_by",["web","lot"],top 23,["web","lot","many","ties","marks","number","a","b","kept","gone"],y80,false⟩:Row),
 (⟨"pieces_by",["web","lot"],top 24,["web","lot","groups","place","mark"],t90,false⟩:Row),
 (⟨"are_joined",["web","lot","places"],top 25,["web","lot","places","marks"],p50,false⟩:Row),
 (⟨"is_chance",["thing"],top 28,["thing","top","bottom"],u00,false⟩:Row),
 (⟨"are_chances",["web","thing"],top 29,["web","thing"],n00,false⟩:Row),
 (⟨"check_chances",["web","thing"],top 30,["web","thing"],j50,false⟩:Row),
 (⟨"all_lots",["web"],top 32,["web","lots","number"],r10,false⟩:Row),
 (⟨"other_ties",["web","lot"],top 33,["web","lot"],p60,false⟩:Row),
 (⟨"is_cut",["web","lot","places"],top 34,["web","lot","places"],N30,false⟩:Row),
 (⟨"good_lots",["web","places"],top 35,["web","places"],u10,false⟩:Row),
 (⟨"cuts",["web","places"],top 36,["web","places"],x91,false⟩:Row),
 (⟨"all_bottoms",["chances"],top 38,["chances","found","chance"],n10,false⟩:Row),
 (⟨"lot_top",["chances","lot"],top 39,["chances","lot","found","number","top","bottom"],F30,false⟩:Row),
 (⟨"lot_chance",["web","chances","lot"],top 40,["web","chances","lot"],p70,false⟩:Row),
 (⟨"lots_share",["chances","lots"],top 41,["chances","lots"],p80,false⟩:Row),
 (⟨"share",["web","chances","places"],top 42,["web","chances","places"],Z70,false⟩:Row),
 (⟨"pieces_shares",["web","chances"],top 43,["web","chances","tops","lot","bottom"],j60,false⟩:Row),
 (⟨"_law_cell_at",["_law_script","_law_k"],top 45,["_law_script","_law_k"],f90,false⟩:Row),
 (⟨"_law_state",["_law_script","_law_k"],top 46,["_law_script","_law_k","_law_cell"],k60,false⟩:Row),
 (⟨"_law_take",["_law_state_here","_law_many"],top 47,["_law_state_here","_law_many","_law_found","_law_stirred"],u20,false⟩:Row),
 (⟨"_law_web",["_law_state_here","_law_most"],top 48,["_law_state_here","_law_most","_law_many","_law_ties","_law_turn","_law_one","_law_other"],y90,false⟩:Row),
 (⟨"_law_lowest",["_law_top","_law_bottom"],top 49,["_law_top","_law_bottom","_law_one","_law_other"],n20,false⟩:Row),
 (⟨"_law_chance",["_law_state_here"],top 50,["_law_state_here","_law_some","_law_way","_law_bottom"],n30,false⟩:Row),
 (⟨"_law_chances",["_law_state_here","_law_web_here"],top 51,["_law_state_here","_law_web_here"],l30,false⟩:Row),
 (⟨"_law_places",["_law_state_here","_law_web_here"],top 52,["_law_state_here","_law_web_here","_law_way","_law_one"],n40,false⟩:Row),
 (⟨"_law_lots",["_law_web_here"],top 53,["_law_web_here","_law_found","_law_number"],F40,false⟩:Row),
 (⟨"_law_total",["_law_some"],top 54,["_law_some","_law_top","_law_bottom","_law_one"],p90,false⟩:Row),
 (⟨"_law_right",["_law_web_here","_law_chances_here","_law_places_here"],top 55,["_law_web_here","_law_chances_here","_law_places_here","_law_every","_law_told","_law_rest","_law_lot","_law_left","_law_some","_law_whole"],k70,false⟩:Row),
 (⟨"law",["_law_script"],top 56,["_law_script","_law_k","_law_state_here","_law_web_here","_law_chances_here","_law_places_here","_law_told","_law_at","_law_twice","_law_more","_law_less","_law_sure","_law_top","_law_bottom","_law_parts"],J21,false⟩:Row)]
def T:List Df:=[(Df.code 2 2 h40:Df),(Df.code 2 3 M90:Df),(Df.code 1 1 I50:Df),(Df.code 2 2 y60:Df),(Df.code 2 4 N00:Df),(Df.code 2 2 y70:Df),(Df.code 1 3 N10:Df),(Df.code 1 1 Z60:Df),(Df.code 2 2 f70:Df),(Df.code 2 2 N20:Df),(Df.code 1 1 t70:Df),(Df.code 2 2 t80:Df),(Df.code 2 2 l20:Df),(Df.code 2 10 y80:Df),(Df.code 2 5 t90:Df),(Df.code 3 4 p50:Df),(Df.code 1 3 u00:Df),(Df.code 2 2 n00:Df),(Df.code 2 2 j50:Df),(Df.code 1 3 r10:Df),(Df.code 2 2 p60:Df),(Df.code 3 3 N30:Df),(Df.code 2 2 u10:Df),(Df.code 2 2 x91:Df),(Df.code 1 3 n10:Df),(Df.code 2 6 F30:Df),(Df.code 3 3 p70:Df),(Df.code 2 2 p80:Df),(Df.code 3 3 Z70:Df),(Df.code 2 5 j60:Df),(Df.code 2 2 f90:Df),(Df.code 2 3 k60:Df),(Df.code 2 4 u20:Df),(Df.code 2 7 y90:Df),(Df.code 2 4 n20:Df),(Df.code 1 4 n30:Df),(Df.code 2 2 l30:Df),(Df.code 2 4 n40:Df),(Df.code 1 3 F40:Df),(Df.code 1 4 p90:Df),(Df.code 3 10 k70:Df),(Df.code 1 15 J21:Df)]
theorem Q72:tabOf rows=T:=rfl
def cn:List Str:=["NoWeb","NoLot","NoPlaces","NoWeb","NoWeb","NoWeb","NoChances","NoWeb","NoWeb","NoWeb","NoWeb","NoWeb"]
end K3
namespace K3
open Q
open L2 (D)
def p52:D->Bool
 |.int _=>true|_=>false
theorem n50(k:Nat)(x:D)(z:Z):b60 T (k + 3) m20 [.d x] z=some (.ok (.d (.bl (p52 x))) z):=by
 cases z <;> cases x <;> rfl
def d10(x:D)(m:Int):Bool:=match x with
 |.int i=>decide (0<=i)&&decide (i < m)|_=>false
theorem u30(k:Nat)(x:D)(m:Int)(z:Z):b60 T (k + 4) q90 [.d x,.d (.int m)] z=some (.ok (.d (.bl (d10 x m))) z):=by
 refine W.ok (o30 (ps:=2) (ns:=2) (b:=y60) rfl rfl (-0) (Wo (n50 (k:=k) x z) ?_))
 cases x with
 |int i=>exact ib (b:=decide (0<=i)) (λh=>sb (show decide (i < m)=(decide (0<=i)&&decide (i < m)) by rw[h];rfl)) λh=>sb (show false=(decide (0<=i)&&decide (i < m)) by rw[h];rfl)|_=>exact sb rfl
def y01(x:D)(m:Int):Bool:=match x with
 |.tup [a,b]=>d10 a m&&(d10 b m&&(match a,b with
  |.int i,.int j=>decide (i < j)
  |_,_=>false))
 |_=>false
theorem m30(h:d10 x m=true):∃ i,x=.int i/\0<=i/\i < m:=by
 cases x with
 |int i =>
  unfold d10 at h;rw[À,decide_eq_true_eq,decide_eq_true_eq] at h;exact⟨i,rfl,h⟩
 |_=>cases h
theorem y11(k:Nat)(x:D)(m:Int)(z:Z):b60 T (k + 5) f21 [.d x,.d (.int m)] z=some (.ok (.d (.bl (y01 x m))) z):=by
 refine W.ok (o30 (ps:=2) (ns:=4) (b:=N00) rfl rfl (-0) ?_)
 cases x with
 |tup l =>
  match l with
  |[a,b] =>
   refine Wo (u30 k a m z) (ib (b:=d10 a m) (λh1=>Wo (u30 k b m z) (ib (b:=d10 b m) (λh2=>?_) λh=>?_)) λh=>?_)
   ·obtain⟨i,rfl,_⟩:=m30 h1;obtain⟨j,rfl,_⟩:=m30 h2;exact sb (show decide (i < j)=(d10 (.int i) m&&(d10 (.int j) m&&decide (i < j))) by rw[h1,h2];rfl)
   ·exact sb (show false=(d10 a m&&(d10 b m&&_)) by rw[h1,h];rfl)
   ·exact sb (show false=(d10 a m&&_) by rw[h];rfl)
  |[]=>exact sb rfl|[_]=>exact sb rfl|_::_::_::_=>exact sb rfl
 |_=>exact sb rfl
theorem I60(l:List D)(p:D->Bool):bfD .all [.lst (l.map λx=>D.bl (p x))]=some (.d (.bl (l.all p))):=by
 have h:(l.map λx=>D.bl (p x)).mapM asB=some (l.map p):=by
  induction l with
  |nil=>rfl
  |cons x r ih =>
   rw[Â0,mapM_cons,ih];rfl
 show((l.map λx=>D.bl (p x)).mapM asB).map _=_;rw[h];simp[all_map]
theorem r20(l:List D)(n:Nat):cutD l (some (n:Int)) none=l.drop n:=by
 have h1:HT.sIx l.length 0 (some (n:Int))=min n l.length:=HT.J20 l.length 0 n;unfold cutD;rw[h1];show((l.drop (min n l.length)).take (l.length - min n l.length))=_;rcases Nat.le_total n l.length with h | h
 ·rw[Ë7 h,É4 (by rw[Ç3];omega)]
 ·rw[Ø9 h,drop_length,List.take_nil,List.drop_of_length_le h]
theorem N40:∀ a b:List D,(B30 a b).length<=a.length
 |[],_=>Ì _|_::_,[]=>Å4 _|_::r,_::q=>É8 (N40 r q)
theorem Z80:∀ {a b:List D}{d:D},d∈B30 a b->∃ x∈a,∃ y∈b,d=.tup [x,y]
 |x::r,y::q,d,h=>by
  rcases ß.mp h with h | h
  ·exact⟨x,É,y,É,h⟩
  ·obtain⟨u,hu,v,hv,e⟩:=Z80 h;exact⟨u,Å _ hu,v,Å _ hv,e⟩
def leD:D->Bool
 |.tup [.tup a,.tup b]=>(match y20 a,y20 b with
  |some ns,some ms=>HT.leB ns ms
  |_,_=>false)
 |_=>false
def U30(l:List D):Bool:=(B30 l (l.drop 1)).all leD
def U40(x:D)(m:Int):Bool:=match x with
 |.tup l=>decide (l.length<=8)&&(l.all (λt=>y01 t m)&&U30 l)|_=>false
theorem U50(h:y01 x m=true):∃ i j,x=.tup [.int i,.int j]/\0<=i/\i < j/\j < m:=by
 cases x with
 |tup l =>
  match l,h with
  |[a,b],h =>
   unfold y01 at h;rw[À,À] at h;obtain⟨h1,h2,h3⟩:=h;obtain⟨i,rfl,i1,i2⟩:=m30 h1;obtain⟨j,rfl,j1,j2⟩:=m30 h2;exact⟨i,j,rfl,i1,of_decide_eq_true h3,j2⟩
 |_=>cases h
theorem q00(h:n<=1000):n<=most:=Ù h (-0)
theorem Z90(k:Nat)(x:D)(m:Int)(z:Z):b60 T (k + 6) I30 [.d x,.d (.int m)] z=some (.ok (.d (.bl (U40 x m))) z):=by
 refine W.ok (o30 (ps:=2) (ns:=2) (b:=y70) rfl rfl (-0) ?_)
 cases x with
 |tup l =>
  refine ib (b:=decide ((8:Int) < (l.length:Int))) (λh=>?_) λh=>?_
  ·refine sb (show false=(decide (l.length<=8)&&_) from ?_);rw[decide_eq_true_eq] at h;rw[decide_eq_false ∅];rfl
  ·rw[decide_eq_false_iff_not] at h;have h8:l.length<=8:=by omega
   refine ip (q00 ∅) (l01 (λx=>.bl (y01 x m)) (λx _=>Wo (y11 k x m z) ⟨rfl,rfl⟩) ?_)
   refine(a00 (I60 l λx=>y01 x m) ?_ :);refine ib (b:=!l.all λx=>y01 x m) (λh=>?_) λh2=>?_
   ·exact sb (show false=(decide (l.length<=8)&&(l.all (λt=>y01 t m)&&U30 l)) by rw[ø] at h;rw[h,Ò5,Bool.and_false])
   ·rw[Ï8] at h2;have ha:=ö.mp h2;have e1:cutD l (some 1) none=l.drop 1:=r20 l 1;refine ip (c:=(B30 l (cutD l (some 1) none)).length<=most) (Ù (N40 _ _) (q00 ∅)) (l01 (λx=>.bl (leD x)) (λx hx=>?_) (a00 (I60 _ leD) ?_ :))
    ·obtain⟨u,hu,v,hv,rfl⟩:=Z80 hx;rw[e1] at hv;obtain⟨i,j,rfl,_⟩:=U50 (ha u hu);obtain⟨i',j',rfl,_⟩:=U50 (ha v (Ò0 hv));exact⟨rfl,rfl⟩
    ·refine sb (b:=(B30 l (cutD l (some 1) none)).all leD) ?_;show _=(decide (l.length<=8)&&(l.all (λt=>y01 t m)&&U30 l));rw[e1,h2,decide_eq_true h8,Æ3,Æ3];rfl
 |_=>exact sb rfl
def D72(a t:D):Bool:=match a with
 |.int m=>decide (1<=m)&&(decide (m<=6)&&U40 t m)|_=>false
def J31(x:D):Bool:=match x with
 |.tup [a,t]=>D72 a t|_=>false
theorem y21(k:Nat)(x:D)(z:Z):b60 T (k + 7) f31 [.d x] z=some (.ok (.d (.bl (J31 x))) z):=by
 refine W.ok (o30 (ps:=1) (ns:=3) (b:=N10) rfl rfl (-0) ?_)
 cases x with
 |tup l =>
  match l with
  |[a,t] =>
   refine Wo (n50 (k + 3) a _) ?_;cases a with
   |int m =>
    refine ib (b:=decide (1<=m)) (λg1=>ib (b:=decide (m<=6)) (λg2=>Wo (Z90 k t m _) ?_) λg2=>?_) λg1=>?_
    ·exact sb (show U40 t m=(decide (1<=m)&&(decide (m<=6)&&U40 t m)) by rw[g1,g2];rfl)
    ·exact sb (show false=(decide (1<=m)&&(decide (m<=6)&&U40 t m)) by rw[g1,g2];rfl)
    ·exact sb (show false=(decide (1<=m)&&(decide (m<=6)&&U40 t m)) by rw[g1];rfl)
   |_=>exact sb rfl
  |[]=>exact sb rfl|[_]=>exact sb rfl|_::_::_::_=>exact sb rfl
 |_=>exact sb rfl
theorem k80(k:Nat)(z:Z)(h:J31 x=true):b60 T (k + 8) j40 [.d x] z=some (.ok (.d .non) z) :=
 W.ok (o30 (ps:=1) (ns:=1) (b:=t70) rfl rfl (-0) (Wo (y21 k x z) (ie (b:=!J31 x) (by rw[h];rfl) (sd rfl))))
theorem l11(hj:0 < j):x90 .mod (.int i) (.int j)=some (.d (.int (i % j))):=by
 show(if 0 < j then some (S.d (.int (i % j))) else none)=_;rw[if_pos hj]
def GT(n:Nat)(a b:Int):Prop:=0<=b/\((∃ k:Nat,n=2 * k + 1/\b < 2 ^ k)∨∃ k:Nat,n=2 * k/\b < a/\a < 2 ^ k)
theorem GT.step(h:GT n a b)(hb:0 < b):∃ m,m < n/\GT m b (a % b):=by
 obtain⟨h0,h⟩:=h;have r0:=Ó3 a (show b≠0 by omega)
 have r1:=emod_lt_of_pos a hb;rcases h with ⟨k,rfl,hk⟩ | ⟨k,rfl,hba,hk⟩
 ·exact⟨2 * k,Ù0 _,r0,.inr ⟨k,rfl,r1,hk⟩⟩
 ·cases k with
  |zero=>simp at hk;omega
  |succ k =>
   refine⟨2 * k + 1,by omega,r0,.inl ⟨k,rfl,?_⟩⟩
   have e:=Int.emod_add_mul_ediv a b;have q1:1<=a / b:=Int.le_ediv_of_mul_le hb ∅
   have:b * 1<=b * (a / b):=ë q1 ∅
   have h2:(2:Int) ^ (k + 1)=2 * 2 ^ k:=by rw[Int.pow_succ,Ã1]
   rw[h2] at hk;omega
theorem y31(a b:Int):gcd b (a % b)=gcd a b:=by
 rw[Int.emod_def,Int.gcd_sub_mul_left_right,Int.gcd_comm]
def big(b:Int):Prop:=b < 2 ^ 4000
theorem a01(h0:0<=b)(h:big b):b.natAbs < H70:=by
 have h:b < 2 ^ 4000:=h;have e:((2 ^ 4000:Nat):Int)=2 ^ 4000:=by rw[Ë6];rfl
 show b.natAbs < 2 ^ 4000;omega
theorem x10(h:b<=2 ^ 64):big b:=Õ5 h (-0)
theorem m40(k:Nat)(a b:Int)(z:Z)(h0:0 < b)(h1:big b):b60 T (k + 3) h00 [.d (.int a),.d (.int b)] z=some (.ok (.d (.int (gcd a b))) z):=by
 refine W.ok (o30 (ps:=2) (ns:=2) (b:=h40) rfl rfl (-0) (p22 (λn ρ z1=>z1=z/\∃ c d:Int,ρ=[some (.d (.int c)),some (.d (.int d))]/\GT n c d/\gcd c d=gcd a b/\(d=0->0<=c)) (2 * 4000 + 1) ⟨rfl,a,b,rfl,⟨Á6 h0,.inl ⟨4000,rfl,h1⟩⟩,rfl,λh=>by omega⟩ (-0) ?_))
 rintro n ρ z1 ⟨rfl,c,d,rfl,g,hg,hc⟩;refine ib (b:=decide (0 < d)) (λhd=>?_) λhd=>?_
 ·rw[decide_eq_true_eq] at hd;obtain⟨m,hm,g'⟩:=g.step hd;refine(a00 (l11 (i:=c) hd) ?_ :);exact⟨m,hm,rfl,d,c % d,rfl,g',(y31 c d).trans hg,λ_=>Int.le_of_lt hd⟩
 ·rw[decide_eq_false_iff_not] at hd;have hz:d=0:=by have:=g.1;omega
  subst hz;rw[Int.gcd_zero_right] at hg;refine sd (s:=.d (.int c)) ?_;rw[← hg,show((c.natAbs:Nat):Int)=c by have:=hc rfl;omega]
def chI(t b:Int):Bool:=(decide (1<=b)&&decide (b<=1000))&&((decide (0<=t)&&decide (t<=b))&&(((gcd t b:Nat):Int) == 1))
def chP:D->D->Bool
 |.int t,.int b=>chI t b|_,_=>false
def chD:D->Bool
 |.tup [d,e]=>chP d e|_=>false
theorem f61(h:¬ (1<=u/\u<=1000/\0<=t/\t<=u)):false=chI t u:=by
 unfold chI;refine Eq.symm ?_;rw[Bool.eq_false_iff];intro q;rw[À,À,À,À,decide_eq_true_eq,decide_eq_true_eq,decide_eq_true_eq,decide_eq_true_eq] at q;exact h ⟨q.1.1,q.1.2,q.2.1.1,q.2.1.2⟩
theorem U60(k:Nat)(x:D)(z:Z):b60 T (k + 4) F10 [.d x] z=some (.ok (.d (.bl (chD x))) z):=by
 refine W.ok (o30 (ps:=1) (ns:=3) (b:=u00) rfl rfl (-0) ?_)
 cases x with
 |tup l =>
  match l with
  |[a,b] =>
   refine Wo (n50 k a z) ?_;cases a with
   |int t =>
    refine Wo (n50 k b z) ?_;cases b with
    |int u =>
     refine ib (b:=decide (1<=u)) (λh1=>ib (b:=!decide (u<=1000)) (λh2=>?_) λh2=>ib (b:=decide (0<=t)) (λh3=>ib (b:=!decide (t<=u)) (λh4=>?_) λh4=>?_) λh3=>?_) λh1=>?_
     ·exact sb (f61 λq=>by rw[ø,decide_eq_false_iff_not] at h2;exact h2 q.2.1)
     ·exact sb (f61 λq=>by rw[ø,decide_eq_false_iff_not] at h4;exact h4 q.2.2.2)
     ·rw[Ï8,decide_eq_true_eq] at h2 h4;rw[decide_eq_true_eq] at h1 h3;refine Wo (m40 k t u z ∅ (x10 ∅)) (sb (show(((gcd t u:Nat):Int) == 1)=chI t u from ?_))
      unfold chI;rw[decide_eq_true h1,decide_eq_true h2,decide_eq_true h3,decide_eq_true h4];rfl
     ·exact sb (f61 λq=>by rw[decide_eq_false_iff_not] at h3;exact h3 q.2.2.1)
     ·exact sb (f61 λq=>by rw[decide_eq_false_iff_not] at h1;exact h1 q.1)
    |_=>exact sb rfl
   |_=>exact sb rfl
  |[]=>exact sb rfl|[_]=>exact sb rfl|_::_::_::_=>exact sb rfl
 |_=>exact sb rfl
def p62(n:Nat):D->Bool
 |.tup l=>(l.length == n)&&l.all chD|_=>false
theorem y41(h:J31 x=true):∃ m ts,x=.tup [.int m,.tup ts]/\1<=m/\m<=6/\ts.length<=8/\(∀ t∈ts,y01 t m=true)/\U30 ts=true:=by
 cases x with
 |tup l =>
  match l,h with
  |[a,t],h =>
   unfold J31 D72 at h;cases a with
   |int m =>
    rw[À,À,decide_eq_true_eq,decide_eq_true_eq] at h;obtain⟨h1,h2,h3⟩:=h;unfold U40 at h3;cases t with
    |tup ts =>
     rw[À,À,decide_eq_true_eq,Â6] at h3;exact⟨m,ts,rfl,h1,h2,h3.1,h3.2.1,h3.2.2⟩
    |_=>cases h3
   |_=>cases h
 |_=>cases h
theorem H10(k:Nat)(hw:J31 (.tup [.int m,.tup ts])=true)(x:D)(z:Z):b60 T (k + 9) w80 [.d (.tup [.int m,.tup ts]),.d x] z=some (.ok (.d (.bl (p62 ts.length x))) z):=by
 obtain⟨m',ts',e,_,_,h8,_⟩:=y41 hw;cases e;refine W.ok (o30 (ps:=2) (ns:=2) (b:=n00) rfl rfl (-0) (Wo (k80 k z hw) ?_))
 cases x with
 |tup l =>
  have e:((l.length:Int) == (ts.length:Int))=(l.length == ts.length):=by rw[Ë9,beq_iff_eq,beq_iff_eq];omega
  refine ib (b:=!((l.length:Int) == (ts.length:Int))) (λh=>?_) λh=>?_
  ·rw[e,ø] at h;exact sb (show false=((l.length == ts.length)&&_) by rw[h];rfl)
  ·rw[e,Ï8] at h;refine ip (q00 (by rw[beq_iff_eq] at h;omega)) (l01 (λx=>.bl (chD x)) (λx _=>Wo (U60 (k + 4) x z) ⟨rfl,rfl⟩) (a00 (I60 l chD) ?_ :))
   exact sb (b:=l.all chD) (show _=((l.length == ts.length)&&l.all chD) by rw[h];rfl)
 |_=>exact sb rfl
theorem h50(k:Nat)(hw:J31 (.tup [.int m,.tup ts])=true)(z:Z)(h:p62 ts.length x=true):b60 T (k + 10) f00 [.d (.tup [.int m,.tup ts]),.d x] z=some (.ok (.d .non) z) :=
 W.ok (o30 (ps:=2) (ns:=2) (b:=j50) rfl rfl (-0) (Wo (H10 k hw x z) (ie (b:=!p62 ts.length x) (by rw[h];rfl) (sd rfl))))
def ZI(z:Z):Prop:=∃ n b,z=some (n,b)/\0<=n/\(b=false->n < 2147483647)
theorem p72{T:List Df}{k f ps ns:Nat}{b:Sm}{l:List S}{z:Z}{Q:S->Z->Prop}{E:Nat->Z->Prop}(hz:ZI z)(h:T[f]?=some (.code ps ns b))(hl:l.length=ps)(hn:ps<=ns)(q:WS (P60 T (k + 2)) false b (start ns (l.map plS)) z (λo z1=>match o with
  |.nx _=>Q (.d .non) z1
  |.rt s=>Q s z1) E):W (b60 T (k + 3) f l) z Q E:=by
 obtain⟨n,c,rfl,_⟩:=hz;refine o30 h hl hn (q.mono (λo z1 h=>?_) λ_ _ h=>h);cases o <;> exact h
theorem y51{a:Int}{n:Nat}(h:a.natAbs < n)(hn:n<=2 ^ 64:=by decide):a.natAbs < H70:=à h (Ù hn (-0))
theorem l21{i j:Int}(hi:i.natAbs < 2 ^ 64)(hj:j.natAbs < 2 ^ 64):x90 .mul (.int i) (.int j)=some (.d (.int (i * j))):=by
 show(if i.natAbs < H70/\j.natAbs < H70 then some (S.d (.int (i * j))) else none)=_;rw[if_pos ⟨y51 hi,y51 hj⟩]
theorem D82{i j:Int}(hj:0 < j)(hb:j.natAbs < 2 ^ 64):x90 .fdiv (.int i) (.int j)=some (.d (.int (i / j))):=by
 show(if 0 < j/\j.natAbs < H70 then some (S.d (.int (i / j))) else none)=_;rw[if_pos ⟨hj,y51 hb⟩]
def Drawn(m:Int)(s:S)(z1:Z):Prop:=ZI z1/\∃ r:Nat,s=.d (.int r)/\(r:Int) < m
theorem j70(k:Nat)(m:Int)(hz:ZI z)(m0:0 < m)(m1:m < 2 ^ 32):W (b60 T (k + 3) b00 [.z,.d (.int m)]) z (Drawn m) NE:=by
 have fin:∀ (a:Int) (z1:Z),ZI z1->Drawn m (.d (.int (a % m))) z1:=λa z1 h=>by
  have h0:=Ó3 a (show m≠0 by omega)
  exact⟨h,(a % m).toNat,by rw[Int.toNat_of_nonneg h0],by rw[Int.toNat_of_nonneg h0];exact emod_lt_of_pos _ m0⟩
 refine p72 hz (ps:=2) (ns:=4) (b:=u20) rfl rfl (-0) ?_
 obtain⟨n,b,rfl,n0,n1⟩:=hz;cases b with
 |true =>
  refine(a00 (l11 (i:=n) m0) ?_ :);refine(a00 (D82 (i:=n) m0 ∅) ?_ :)
  exact fin n _ ⟨n / m,true,rfl,Ú5 n0 ∅,λh=>nomatch h⟩
 |false =>
  have n1:=n1 rfl;have e1:∀ a:Int,0<=a % 2147483647/\a % 2147483647 < 2147483647:=λa=>⟨emod_nonneg _ (-0),emod_lt_of_pos _ (-0)⟩
  have e2:∀ a:Int,0<=a % 2147483629/\a % 2147483629 < 2147483629:=λa=>⟨emod_nonneg _ (-0),emod_lt_of_pos _ (-0)⟩
  have s1:∀ a:Int,(a % 2147483647).natAbs < 2 ^ 64:=λa=>by have:=e1 a;omega
  have s2:∀ a:Int,(a % 2147483629).natAbs < 2 ^ 64:=λa=>by have:=e2 a;omega
  refine(a00 (l21 (i:=n) (j:=48271) ∅ (-0)) ?_ :)
  have a1:=e1 (n * 48271 + 29);refine(a00 (l21 (s1 (n * 48271 + 29)) (s1 (n * 48271 + 29))) ?_ :);refine(a00 (l21 (i:=39373) (-0) (s1 (n * 48271 + 29))) ?_ :)
  refine(a00 (l21 (s2 _) (s2 _)) ?_ :);refine(a00 (l21 (i:=16807) (-0) (s2 _)) ?_ :)
  refine(a00 (l11 m0) ?_ :);exact fin _ _ ⟨_,false,rfl,a1.1,λ_=>a1.2⟩
theorem l31(k:Nat)(ns:List Int)(j:Nat)(z:Z):∃ c:Int,b60 T (k + 3) s40 [.d (.lst (ns.map D.int)),.d (.int j)] z=some (.ok (.d (.int c)) z):=by
 by_cases h:j < ns.length
 ·refine⟨ns[j],W.ok (o30 (ps:=2) (ns:=2) (b:=f90) rfl rfl (-0) (it (b:=decide ((j:Int) < ((ns.map D.int).length:Int))) (by simp[h]) ?_))⟩
  refine(a00 (o:=j81 (.lst (ns.map D.int)) (.int j)) (L2.J40 (v:=.int ns[j]) (by simp[h])) ?_ :)
  exact sd rfl
 ·exact⟨0,W.ok (o30 (ps:=2) (ns:=2) (b:=f90) rfl rfl (-0) (ie (b:=decide ((j:Int) < ((ns.map D.int).length:Int))) (by simp;omega) (sd rfl)))⟩
theorem J41(k:Nat)(ns:List Int)(j:Nat)(z:Z):∃ (n:Int) (b:Bool),ZI (some (n,b))/\b60 T (k + 4) z80 [.d (.lst (ns.map D.int)),.d (.int j)] z=some (.ok (.fr [.int n,.bl b]) z):=by
 obtain⟨c,hc⟩:=l31 k ns j z;by_cases h:(10 ^ 18:Int)<=c
 ·exact⟨c - 10 ^ 18,true,⟨_,_,rfl,by omega,λh=>nomatch h⟩,W.ok (o30 (ps:=2) (ns:=3) (b:=k60) rfl rfl (-0) (Wo hc (it (b:=decide ((10 ^ 18:Int)<=c)) (decide_eq_true h) (sd rfl))))⟩
 ·refine⟨c % 2147483647,false,⟨_,_,rfl,emod_nonneg _ (-0),λ_=>emod_lt_of_pos _ (-0)⟩,W.ok (o30 (ps:=2) (ns:=3) (b:=k60) rfl rfl (-0) (Wo hc (ie (b:=decide ((10 ^ 18:Int)<=c)) (decide_eq_false h) (sd rfl))))⟩
theorem U70(h0:0<=m)(h1:m < 100000):itD .rng1 [.int m]=some ((Û m.toNat).map λ(i:Nat)=>D.int i):=by
 show(if inR m=true then _ else none)=_;rw[if_pos (L10.mpr ⟨by omega,h1⟩)]
theorem y61:∀ l:List Int,h90 (l.map D.int)=true/\l80 (l.map D.int)=0
 |[]=>⟨rfl,rfl⟩
 |x::r=>by
  obtain⟨h1,h2⟩:=y61 r;refine⟨h1,?_⟩;show Nat.max 0 (l80 (r.map D.int))=0;rw[h2];rfl
theorem J51(n:Nat):(Û n).map (λ(i:Nat)=>D.int i)=((Û n).map λ(i:Nat)=>(i:Int)).map D.int:=by
 rw[ô];rfl
theorem Z71{l:List Int}{j:Nat}(h:j < l.length):(l.map D.int)[j]?=some (.int l[j]):=by rw[Ö,Ò h];rfl
theorem y71{j:Nat}(h:l[j]?=some x):j81 (.lst l) (.int j)=some x:=L2.J40 h
theorem Z81{j:Nat}(h:l[j]?=some x):j81 (.tup l) (.int j)=some x:=L2.J40 h
def pr(p:Int × Int):D:=.tup [.int p.1,.int p.2]
def ky(p:Int × Int):List Int:=[p.1,p.2]
theorem H92(a b c d:Int):MySort.k00 [a,b] [c,d]=if a=c then(if b=d then false else decide (b < d)) else decide (a < c):=rfl
def Ch:List (Int × Int)->Prop
 |a::b::r=>HT.leB (ky a) (ky b)=true/\Ch (b::r)|_=>True
theorem f71(h:MySort.k00 (ky p) (ky q)=true):HT.leB (ky p) (ky q)=true:=by
 unfold HT.leB;unfold ky at h ⊢;rw[H92] at h ⊢;by_cases h1:p.1=q.1
 ·rw[if_pos h1] at h;rw[if_pos h1.symm];by_cases h2:p.2=q.2
  ·rw[if_pos h2] at h;cases h
  ·rw[if_neg h2] at h;rw[if_neg (À6 h2)];simp only[decide_eq_true_eq] at h;simp;omega
 ·rw[if_neg h1] at h;rw[if_neg (À6 h1)];simp only[decide_eq_true_eq] at h;simp;omega
def C61(k:Int × Int):List (Int × Int)->List (Int × Int)
 |[]=>[k]|y::r=>if MySort.k00 (ky y) (ky k) then y::C61 k r else k::y::r
def l41:List (Int × Int)->List (Int × Int)
 |[]=>[]|k::r=>C61 k (l41 r)
theorem U80(k:Int × Int):∀ l,(C61 k l).Perm (k::l)
 |[]=>.refl _
 |y::r=>by
  unfold C61;split
  ·exact((U80 k r).cons y).trans (.swap _ _ _)
  ·exact .refl _
theorem I70:∀ l,(l41 l).Perm l
 |[]=>.refl _|k::r=>(U80 k _).trans ((I70 r).cons k)
theorem y81(k:Int × Int):∀ l,Ch l->Ch (C61 k l)
 |[],_=>trivial
 |[y],_=>by
  unfold C61;split
  ·rename_i h;exact⟨f71 h,trivial⟩
  ·rename_i h;refine⟨?_,trivial⟩;unfold HT.leB;simpa using h
 |y::x::r,h=>by
  obtain⟨h1,h2⟩:=h;have ih:=y81 k (x::r) h2;unfold C61;split
  ·rename_i hy;unfold C61 at ih ⊢;split at ih
   ·rename_i hx;rw[if_pos hx];exact⟨h1,ih⟩
   ·rename_i hx;rw[if_neg hx];exact⟨f71 hy,ih⟩
  ·rename_i hy;refine⟨?_,h1,h2⟩;unfold HT.leB;simpa using hy
theorem f81:∀ l,Ch (l41 l)
 |[]=>trivial|k::r=>y81 k _ (f81 r)
theorem f91(k:Int × Int):∀ l:List (Int × Int),G61 (pr k) (l.map pr)=(C61 k l).map pr
 |[]=>rfl
 |y::r=>by
  unfold C61;show(if MySort.k00 (ky y) (ky k) then pr y::G61 (pr k) (r.map pr) else pr k::pr y::r.map pr)=_;split
  ·rw[f91 k r];rfl
  ·rfl
theorem U90:∀ l:List (Int × Int),D80 (l.map pr)=(l41 l).map pr
 |[]=>rfl
 |k::r=>by
  show G61 (pr k) (D80 (r.map pr))=_;rw[U90 r,f91];rfl
theorem D92(p q:Int × Int):ltD (pr p) (pr q)=some (MySort.k00 (ky p) (ky q)):=by
 show(if (p.1 == q.1)=true then(if (p.2 == q.2)=true then some false else some (decide (p.2 < q.2))) else some (decide (p.1 < q.1)))=some (if p.1=q.1 then(if p.2=q.2 then false else decide (p.2 < q.2)) else decide (p.1 < q.1));simp only[beq_iff_eq];split
 ·split <;> rfl
 ·rfl
theorem Z91(p q:Int × Int):l90 (pr p) (pr q)=true:=by
 unfold l90;rw[D92];show(true&&((some (MySort.k00 (ky p) (ky q)) == some (MySort.k00 (ky p) (ky q)))&&(((p.1 == q.1)&&((p.2 == q.2)&&true)) || !([p.1,p.2] == [q.1,q.2]))))=true;rw[beq_self_eq_true,Æ3,Æ3,Ü2];by_cases h1:p.1=q.1 <;> by_cases h2:p.2=q.2 <;> simp[h1,h2]
theorem y91(l:List (Int × Int)):s20 (l.map pr)=true:=by
 refine ö.mpr λx hx=>?_;obtain⟨p,_,rfl⟩:=Ø.mp hx;show(true&&(true&&(l.map pr).all (l90 (pr p))))=true;refine ö.mpr λy hy=>?_;obtain⟨q,_,rfl⟩:=Ø.mp hy;exact Z91 p q
theorem z01(h:l.length < 64):bfD .sorted [.lst (l.map pr)]=some (.fr ((l41 l).map pr)):=by
 show(if (l.map pr).length < 64/\s20 (l.map pr)=true then some (S.fr (D80 (l.map pr))) else(G72 (l.map pr)).map S.fr)=_;rw[if_pos ⟨by rw[Ç];exact h,y91 l⟩,U90]
theorem g01:∀ {l:List (Int × Int)},Ch l->U30 (l.map pr)=true
 |[],_=>rfl|[_],_=>rfl
 |a::b::r,h=>by
  have ih:=g01 h.2;show((B30 (pr a::pr b::r.map pr) (pr b::r.map pr)).all leD)=true;have e:B30 (pr a::pr b::r.map pr) (pr b::r.map pr)=.tup [pr a,pr b]::B30 (pr b::r.map pr) (r.map pr):=rfl;rw[e,Ä1,À];exact⟨h.1,ih⟩
theorem C00:∀ l:List (Int × Int),k20 (l.map pr)=true
 |[]=>rfl
 |_::r=>by
  show(bare _&&k20 (r.map pr))=true;rw[C00 r];rfl
theorem p82:∀ l:List (Int × Int),h90 (l.map pr)=true/\l80 (l.map pr)<=1
 |[]=>⟨rfl,by decide⟩
 |p::r=>by
  obtain⟨h1,h2⟩:=p82 r;refine⟨?_,?_⟩
  ·show(x80 (pr p)&&h90 (r.map pr))=true;rw[h1];rfl
  ·show Nat.max (deep (pr p)) (l80 (r.map pr))<=1;have:deep (pr p)=1:=rfl;rw[this];exact Nat.max_le.mpr ⟨Ì _,h2⟩
theorem a02(l:List (Int × Int)):okD (.lst (l.map pr))=true:=by
 obtain⟨h1,h2⟩:=p82 l;unfold okD;rw[À,decide_eq_true_eq];refine⟨h1,?_⟩;show l80 (l.map pr) + 1<=40;omega
theorem a12(l:List (Int × Int)):okD (.tup (l.map pr))=true:=a02 l
def C10(m:Int)(ps:List (Int × Int)):D:=.tup [.int m,.tup (ps.map pr)]
structure c60(m:Int)(ps:List (Int × Int)):Prop where
 m1:1<=m
 m6:m<=6
 len:ps.length<=8
 tie:∀ p∈ps,0<=p.1/\p.1 < p.2/\p.2 < m
 ch:Ch ps
theorem c60.web(g:c60 m ps):J31 (C10 m ps)=true:=by
 unfold C10 J31 D72 U40;simp only[À,decide_eq_true_eq,Â6,Ç];refine⟨g.m1,g.m6,g.len,λt ht=>?_,g01 g.ch⟩;obtain⟨p,hp,rfl⟩:=Ø.mp ht;obtain⟨h1,h2,h3⟩:=g.tie p hp;unfold pr y01 d10;simp only[À,decide_eq_true_eq];omega
theorem p92(h1:0<=i)(hi:i < 100)(h0:-100 < m)(h:m < 100000):itD .rng2 [.int i,.int m]=some ((Û (m - i).toNat).map λ(k:Nat)=>D.int (i + k)):=by
 show(if inR i=true/\inR m=true then _ else none)=_;rw[if_pos ⟨L10.mpr ∅,L10.mpr ∅⟩]
theorem a11{L:List D}{n:Nat}(f:D->Bool)(h:n < L.length)(ha:L.all f=true):∃ x,L[n]?=some x/\f x=true :=
 ⟨L[n],Ò h,ö.mp ha _ (Å8 h)⟩
def btw(a b:Int):D->Bool
 |.int i=>decide (a<=i)&&decide (i<=b)|_=>false
theorem P91(h:btw a b x=true):∃ i,x=.int i/\a<=i/\i<=b:=by
 cases x with
 |int i =>
  unfold btw at h;rw[À,decide_eq_true_eq,decide_eq_true_eq] at h;exact⟨i,rfl,h⟩
 |_=>cases h
theorem V00(l:List D)(h:0<=n):cutD l none (some n)=l.take n.toNat:=by
 obtain⟨k,rfl⟩:=Ð6 h;have h1:HT.sIx l.length l.length (some (k:Int))=min k l.length:=HT.J20 _ _ k;unfold cutD;rw[h1];show(l.drop 0).take (min k l.length - 0)=_;rw[List.drop_zero,Nat.sub_zero,Â3];rcases Nat.le_total k l.length with h | h
 ·rw[Ë7 h]
 ·rw[Ø9 h,List.take_length,É4 h]
theorem s72{α:Type}{l:List α}{a:α}:(l++[a]).length=l.length + 1:=by rw[À0];rfl
theorem Q01(a b:Int):(if b < a then b else a)=min a b/\(if b > a then b else a)=max a b:=by
 constructor <;> (split <;> omega)
theorem F50{P:Int × Int->Prop}:∀ {xs ys:List D},PySem.Paired (λ_ y=>∃ c,y=pr c/\P c) xs ys->∃ cs:List (Int × Int),ys=cs.map pr/\cs.length=xs.length/\∀ c∈cs,P c
 |[],_,h=>by cases h;exact⟨[],rfl,rfl,λc hc=>nomatch hc⟩
 |x::r,_,h=>by
  cases h with
  |cons h1 h2 =>
   obtain⟨c,rfl,hc⟩:=h1;obtain⟨cs,rfl,hl,ha⟩:=F50 h2;refine⟨c::cs,rfl,by rw[Ú,hl];rfl,λd hd=>?_⟩
   rcases ß.mp hd with rfl | hd
   ·exact hc
   ·exact ha d hd
def s82(m:Int)(p:Int × Int):Prop:=0<=p.1/\p.1 < p.2/\p.2 < m
abbrev q02(mo m:Int)(ps:List (Int × Int))(o4 o5 o6:Option S):Env:=[some .z,some (.d (.int mo)),some (.d (.int m)),some (.fr (ps.map pr)),o4,o5,o6]
theorem q12:q02 mo m (ps++[p]) o4 o5 o6=[some .z,some (.d (.int mo)),some (.d (.int m)),some (.fr (ps.map pr++[pr p])),o4,o5,o6]:=by rw[q02,À5];rfl
theorem J61{mo m:Int}{ps:List (Int × Int)}(m1:1<=m)(m6:m<=6)(h0:0<=mo)(h8:mo<=8)(hp:∀ p∈ps,s82 m p)(hl:ps.length < 64):∃ qs,bfD .sorted [.lst (cutD (ps.map pr) none (some mo))]=some (.fr (qs.map pr))/\c60 m qs/\(qs.length:Int)<=mo:=by
 have hl':(ps.take mo.toNat).length < 64:=by rw[Á7];omega
 refine⟨l41 (ps.take mo.toNat),by rw[V00 _ h0,← map_take];exact z01 hl',?_⟩
 have hperm:=I70 (ps.take mo.toNat);have hlen:=hperm.length_eq;rw[Á7] at hlen;exact⟨⟨m1,m6,by omega,λq hq=>hp q (List.mem_of_mem_take (hperm.mem_iff.mp hq)),f81 _⟩,by omega⟩
theorem z11(k:Nat){mo:Int}{z:Z}(hz:ZI z)(h0:0<=mo)(h8:mo<=8):W (b60 T (k + 5) I40 [.z,.d (.int mo)]) z (λs z1=>ZI z1/\∃ m ps,s=.d (C10 m ps)/\c60 m ps/\(ps.length:Int)<=mo) NE:=by
 refine p72 hz (ps:=2) (ns:=7) (b:=y90) rfl rfl (-0) ?_
 refine(j70 (k + 1) 8 hz (-0) (-0)).imp λs z1 ⟨hz1,n,e,hn⟩=>?_
 subst e;obtain⟨x,ex,hx⟩:=a11 (L:=[D.int 6,.int 5,.int 4,.int 3,.int 4,.int 5,.int 2,.int 1]) (n:=n) (btw 1 6) (by simp only[Ú,Â4];omega) (-0)
 obtain⟨m,rfl,m1,m6⟩:=P91 hx;refine(a00 (y71 ex) ?_ :);refine(x71 (.fr []) (q02 mo m [] none none none) ?_ ?_ ?_ :)
 ·exact⟨rfl,rfl⟩
 ·rfl
 refine o82 (λρ z2=>ZI z2/\∃ ps:List (Int × Int),ρ=q02 mo m ps none none none/\(∀ p∈ps,s82 m p)/\ps.length<=5) ?_ ?_
 ·refine ib (b:=decide (1 < m)) (λh=>?_) λh=>⟨hz1,[],rfl,(λp hp=>nomatch hp),by simp⟩
  have h:=of_decide_eq_true h;refine(j70 (k + 1) 5 hz1 (-0) (-0)).imp λs z2 ⟨hz2,v,e,hv⟩=>?_
  subst e;refine ib (b:=decide (0 < (v:Int))) (λh1=>?_) λh1=>⟨hz2,[],rfl,(λp hp=>nomatch hp),by simp⟩
  refine(a00 (p92 (i:=1) (m:=m) (-0) (-0) ∅ ∅) ?_ :)
  refine ip (by rw[Ç,ì];simp only[most];omega) (H82 (I:=ZI) (P:=λ_ y=>∃ c,y=pr c/\s82 m c) hz2 (λx hx z3 hz3=>?_) λys z3 hz3 hys=>?_)
  ·obtain⟨i,hi,rfl⟩:=Ø.mp hx;have hi:=ç.mp hi;refine(j70 (k + 1) (1 + (i:Int)) hz3 ∅ ∅).imp λs z4 ⟨hz4,a,e,ha⟩=>?_
   subst e;exact⟨hz4,((a:Int),1 + (i:Int)),rfl,by show(0:Int)<=a;omega,ha,by show 1 + (i:Int) < m;omega⟩
  ·obtain⟨cs,rfl,hl,ha⟩:=F50 hys;rw[Ç,ì] at hl;exact⟨hz3,cs,rfl,ha,by omega⟩
 ·rintro ρ z2 ⟨hz2,ps,rfl,hp,hl⟩;refine(j70 (k + 1) (mo + 1) hz2 ∅ ∅).imp λs z3 ⟨hz3,t,e,ht⟩=>?_
  subst e;have hj:(if decide (1 < m)=true then(1:Int) else 0)=0∨((if decide (1 < m)=true then(1:Int) else 0)=1/\1 < m):=by
   by_cases h:1 < m
   ·exact .inr ⟨by rw[decide_eq_true h];rfl,h⟩
   ·exact .inl (by rw[decide_eq_false h];rfl)
  refine(a00 (l21 (i:=(t:Int)) (j:=if decide (1 < m)=true then(1:Int) else 0) ∅ (by rcases hj with h | h <;> (first | rw[h] | rw[h.1]) <;> decide)) ?_ :)
  have hc:∃ c:Nat,(t:Int) * (if decide (1 < m)=true then(1:Int) else 0)=c/\c<=8/\(0 < c->1 < m):=by
   rcases hj with h | h
   ·exact⟨0,by rw[h,Int.mul_zero];rfl,by omega,λh=>absurd h ∅⟩
   ·exact⟨t,by rw[h.1,mul_one],by omega,λ_=>h.2⟩
  obtain⟨c,ec,hc8,hcm⟩:=hc;refine(a00 (o:=itD .rng1 [.int ((t:Int) * (if decide (1 < m)=true then(1:Int) else 0))]) (a:=(Û c).map λ(i:Nat)=>D.int i) (by rw[ec,U70 ∅ ∅,Â3]) ?_ :)
  refine M80 (λxs ρ z=>ZI z/\(0 < xs.length->1 < m)/\∃ (ps:List (Int × Int)) (o4 o5 o6:Option S),ρ=q02 mo m ps o4 o5 o6/\(∀ p∈ps,s82 m p)/\ps.length + xs.length<=13) _ ⟨hz3,λh=>hcm (by rw[Ç,ì] at h;exact h),ps,_,_,_,rfl,hp,by rw[Ç,ì];omega⟩ ?_ ?_
  ·rintro x r ρ z4 ⟨hz4,hm,ps,o4,o5,o6,rfl,hp,hl⟩;have hm:=hm (by simp)
   refine(j70 (k + 1) m hz4 ∅ ∅).imp λs z5 ⟨hz5,a,e,ha⟩=>?_
   subst e;refine(j70 (k + 1) (m - 1) hz5 ∅ ∅).imp λs z6 ⟨hz6,b,e,hb⟩=>?_
   subst e;refine(a00 (l11 (i:=(a:Int) + 1 + b) (j:=m) ∅) ?_ :)
   have hq:0<=((a:Int) + 1 + b) % m/\((a:Int) + 1 + b) % m < m/\((a:Int) + 1 + b) % m≠a:=by
    refine⟨Ó3 _ ∅,emod_lt_of_pos _ ∅,?_⟩
    by_cases h:(a:Int) + 1 + b < m
    ·rw[Ï0 ∅ h];omega
    ·rw[show(a:Int) + 1 + b=((a:Int) + 1 + b - m) + m from by omega,Int.add_emod_right,Ï0 ∅ ∅];omega
   generalize ((a:Int) + 1 + b) % m=q at hq ⊢;refine ip ⟨rfl,by rw[Ç];simp only[most,Ú] at hl ⊢;omega⟩ ?_
   refine⟨hz6,λ_=>hm,ps++[(min (a:Int) q,max (a:Int) q)],some (.d x),some (.d (.int a)),some (.d (.int q)),?_,λp hp'=>?_,by rw[s72];simp only[Ú] at hl;omega⟩
   ·rw[q12,← (Q01 (a:Int) q).1,← (Q01 (a:Int) q).2];rfl
   ·rcases Á0.mp hp' with h | h
    ·exact hp p h
    ·rw[ñ.mp h];show 0<=min (a:Int) q/\min (a:Int) q < max (a:Int) q/\max (a:Int) q < m;omega
  ·rintro ρ z4 ⟨hz4,_,ps,o4,o5,o6,rfl,hp,hl⟩;obtain⟨qs,e,g,hq⟩:=J61 m1 m6 h0 h8 hp (by simp only[Â4] at hl;omega)
   refine(a00 e ?_ :);exact⟨hz4,m,qs,rfl,g,hq⟩
theorem J71(hj:0 < j)(hb:big j):x90 .fdiv (.int i) (.int j)=some (.d (.int (i / j))):=by
 show(if 0 < j/\j.natAbs < H70 then some (S.d (.int (i / j))) else none)=_;rw[if_pos ⟨hj,a01 ∅ hb⟩]
theorem l51(i0:0<=i)(hi:big i)(j0:0<=j)(hj:big j):x90 .mul (.int i) (.int j)=some (.d (.int (i * j))):=by
 show(if i.natAbs < H70/\j.natAbs < H70 then some (S.d (.int (i * j))) else none)=_;rw[if_pos ⟨a01 i0 hi,a01 j0 hj⟩]
theorem q10(h:0 < b):0 < ((gcd t b:Nat):Int):=by
 have:=Int.gcd_pos_of_ne_zero_right (a:=t) (b:=b) ∅
 omega
theorem N50(h:0 < b)(hb:big b):big (gcd t b:Int):=Õ5 (le_of_dvd h (Int.gcd_dvd_right t b)) hb
def d00(t b:Int):Int × Int:=(t / gcd t b,b / gcd t b)
theorem F60(k:Nat)(t b:Int)(z:Z)(h0:0 < b)(h1:big b):b60 T (k + 4) B90 [.d (.int t),.d (.int b)] z=some (.ok (.d (pr (d00 t b))) z):=by
 refine W.ok (o30 (ps:=2) (ns:=3) (b:=M90) rfl rfl (-0) (Wo (m40 k t b z h0 h1) ?_))
 refine(a00 (J71 (i:=t) (q10 (t:=t) h0) (N50 h0 h1)) ?_ :);refine(a00 (J71 (i:=b) (q10 (t:=t) h0) (N50 h0 h1)) ?_ :);exact sd rfl
structure Bd(n:Nat)(c:Int × Int):Prop where
 t0:0<=c.1
 tb:c.1<=c.2
 b0:0 < c.2
 bb:c.2<=2 ^ n
theorem u40(h:n<=3999)(hi:i<=2 ^ n):big i:=by
 refine Õ5 hi ?_;have h2:(2:Nat) ^ n < 2 ^ 4000:=Nat.pow_lt_pow_right (-0) ∅
 have e:((2 ^ n:Nat):Int) < ((2 ^ 4000:Nat):Int):=Int.ofNat_lt.mpr h2
 rwa [Ë6,Ë6] at e
theorem Bd.t(h:Bd n c)(hn:n<=3999):big c.1:=u40 hn (Å9 h.tb h.bb)
theorem Bd.b(h:Bd n c)(hn:n<=3999):big c.2:=u40 hn h.bb
theorem N60(h0:0 < b):t=gcd t b * (d00 t b).1/\b=gcd t b * (d00 t b).2:=by
 constructor
 ·exact(Int.mul_ediv_cancel' (Int.gcd_dvd_left t b)).symm
 ·exact(Int.mul_ediv_cancel' (Int.gcd_dvd_right t b)).symm
theorem a21(h0:0 < b):gcd (d00 t b).1 (d00 t b).2=1:=Int.gcd_ediv_gcd_ediv_gcd_of_ne_zero_right ∅
theorem F70(h0:0 < b):0 < (d00 t b).2:=by
 have g0:=q10 (t:=t) h0;obtain⟨_,e⟩:=N60 (t:=t) h0;refine Int.pos_of_mul_pos_right (a:=gcd t b) ?_ g0;omega
theorem a22(h0:0 < b)(h1:0<=t)(h2:t<=b):0<=(d00 t b).1/\(d00 t b).1<=(d00 t b).2/\(d00 t b).2<=b:=by
 have g0:=q10 (t:=t) h0;have p0:=F70 (t:=t) h0;obtain⟨e1,e2⟩:=N60 (t:=t) h0;refine⟨Ú5 h1 (Á6 g0),Int.le_of_mul_le_mul_left (a:=gcd t b) ∅ g0,?_⟩
 have:1 * (d00 t b).2<=(gcd t b:Int) * (d00 t b).2:=Ê5 ∅ ∅
 omega
theorem z21(h:gcd a b=1)(hd:b∣a * d):b∣d:=by
 have h1:Nat.Coprime b.natAbs a.natAbs:=by rw[Nat.coprime_comm];exact h
 exact Int.natAbs_dvd_natAbs.mp (h1.dvd_of_dvd_mul_left (by rw[← natAbs_mul];exact Int.natAbs_dvd_natAbs.mpr hd))
theorem l61(hb:0 < b)(hd:0 < d)(h1:gcd a b=1)(h2:gcd c d=1)(h:a * d=c * b):a=c/\b=d:=by
 have k1:b∣d:=z21 h1 ⟨c,by rw[h,Ã1]⟩
 have k2:d∣b:=z21 h2 ⟨a,by rw[← h,Ã1]⟩
 have e:b=d:=Int.le_antisymm (le_of_dvd hd k1) (le_of_dvd hb k2);subst e;exact⟨Î2 ∅ h,rfl⟩
def IsC(c:Int × Int):Prop:=1<=c.2/\c.2<=1000/\0<=c.1/\c.1<=c.2/\gcd c.1 c.2=1
theorem IsC.ch(h:IsC c):chD (pr c)=true:=by
 obtain⟨h1,h2,h3,h4,h5⟩:=h;show chI c.1 c.2=true;unfold chI;rw[h5,decide_eq_true h1,decide_eq_true h2,decide_eq_true h3,decide_eq_true h4];rfl
theorem a32(h0:0 < b)(hb:b<=1000)(h1:0<=t)(h2:t<=b):IsC (d00 t b):=by
 obtain⟨y0,yx,xb⟩:=a22 h0 h1 h2;have:=F70 (t:=t) h0;exact⟨by omega,by omega,y0,yx,a21 h0⟩
theorem i30(k:Nat)(t b:Int)(z:Z)(h0:0 < b)(h1:big b):b60 T (k + 3) f10 [.d (.int t),.d (.int b)] z=some (.ok (.d (pr (d00 t b))) z):=by
 refine W.ok (o30 (ps:=2) (ns:=4) (b:=n20) rfl rfl (-0) (p22 (λn ρ z1=>z1=z/\∃ c d:Int,ρ=[some (.d (.int t)),some (.d (.int b)),some (.d (.int c)),some (.d (.int d))]/\GT n c d/\gcd c d=gcd t b/\(d=0->0<=c)) (2 * 4000 + 1) ⟨rfl,_,b,rfl,⟨Á6 h0,.inl ⟨4000,rfl,h1⟩⟩,rfl,λh=>by omega⟩ (-0) ?_))
 rintro n ρ z1 ⟨rfl,c,d,rfl,g,hg,hc⟩;refine ib (b:=!(d == 0)) (λhd=>?_) λhd=>?_
 ·rw[ø,beq_eq_false_iff_ne] at hd;have hd':0 < d:=by have:=g.1;omega
  obtain⟨m,hm,g'⟩:=g.step hd';refine(a00 (l11 (i:=c) hd') ?_ :);exact⟨m,hm,rfl,d,c % d,rfl,g',(y31 c d).trans hg,λ_=>Int.le_of_lt hd'⟩
 ·rw[Ï8,beq_iff_eq] at hd;subst hd;rw[Int.gcd_zero_right] at hg;have e:c=((gcd t b:Nat):Int):=by have:=hc rfl;omega
  subst e;refine(a00 (J71 (i:=t) (q10 (t:=t) h0) (N50 h0 h1)) ?_ :);refine(a00 (J71 (i:=b) (q10 (t:=t) h0) (N50 h0 h1)) ?_ :);exact sd rfl
def E02:D->Bool
 |.tup [.int t,.int b]=>chI t b|_=>false
theorem a42(h:E02 x=true):∃ c,x=pr c/\IsC c:=by
 unfold E02 at h;split at h
 ·rename_i t b;unfold chI at h;simp only[À,decide_eq_true_eq,beq_iff_eq] at h;exact⟨(t,b),rfl,h.1.1,h.1.2,h.2.1.1,h.2.1.2,by have:=h.2.2;show gcd t b=1;omega⟩
 ·cases h
theorem A00(k:Nat)(hz:ZI z):W (b60 T (k + 4) m90 [.z]) z (λs z1=>ZI z1/\∃ c,s=.d (pr c)/\IsC c) NE:=by
 refine p72 hz (ps:=1) (ns:=4) (b:=n30) rfl rfl (-0) ?_
 refine(j70 k 16 hz (-0) (-0)).imp λs z1 ⟨hz1,v,e,v1⟩=>?_
 subst e;refine ib (b:=decide ((v:Int) < 9)) (λh2=>?_) λh2=>?_
 ·have h2:=of_decide_eq_true h2;obtain⟨x,ex,hx⟩:=a11 (L:=[pr (1,2),pr (2,3),pr (1,3),pr (3,4),pr (9,10),pr (0,1),pr (1,1),pr (1,1000),pr (999,1000)]) (n:=v) E02 (by simp only[Ú,Â4];omega) (by decide +kernel)
  obtain⟨c,rfl,hc⟩:=a42 hx;refine(a00 (y71 ex) ?_ :);exact⟨hz1,c,rfl,hc⟩
 ·refine(j70 k 2 hz1 (-0) (-0)).imp λs z2 ⟨hz2,a,e,a1⟩=>?_
  subst e;obtain⟨x,ex,hx⟩:=a11 (L:=[D.int 12,.int 1000]) (n:=a) (btw 1 1000) (by simp only[Ú,Â4];omega) (-0)
  obtain⟨u,rfl,u1,u2⟩:=P91 hx;refine(a00 (y71 ex) ?_ :);refine(j70 k u hz2 ∅ ∅).imp λs z3 ⟨hz3,b,e,b1⟩=>?_
  subst e;refine(j70 k (1 + (b:Int) + 1) hz3 ∅ ∅).imp λs z4 ⟨hz4,t,e,t1⟩=>?_
  subst e;exact Wo (i30 k _ _ _ ∅ (x10 ∅)) ⟨hz4,d00 t (1 + (b:Int)),rfl,a32 ∅ ∅ ∅ ∅⟩
theorem N70(k:Nat){m:Int}{ts:List D}{z:Z}(hz:ZI z)(hl:ts.length<=8):W (b60 T (k + 5) s50 [.z,.d (.tup [.int m,.tup ts])]) z (λs z1=>ZI z1/\∃ cs:List (Int × Int),s=.d (.tup (cs.map pr))/\cs.length=ts.length/\∀ c∈cs,IsC c) NE:=by
 refine p72 hz (ps:=2) (ns:=2) (b:=l30) rfl rfl (-0) (ip (q00 ∅) (H82 (I:=ZI) (P:=λ_ y=>∃ c,y=pr c/\IsC c) hz (λx hx z1 hz1=>?_) λys z1 hz1 hp=>?_))
 ·refine(A00 k hz1).imp λs z2 ⟨hz2,c,e,hc⟩=>?_;subst e;exact⟨hz2,c,rfl,hc⟩
 ·obtain⟨cs,rfl,hl,ha⟩:=F50 hp;exact⟨hz1,cs,rfl,hl,ha⟩
theorem z31{cs:List (Int × Int)}{n:Nat}(h:cs.length=n)(ha:∀ c∈cs,IsC c):p62 n (.tup (cs.map pr))=true:=by
 unfold p62;rw[À,beq_iff_eq,Ç,Â6];refine⟨h,λd hd=>?_⟩;obtain⟨c,hc,rfl⟩:=Ø.mp hd;exact(ha c hc).ch
def ltP:D->Bool
 |.tup [.int a,.int b]=>decide (a < b)|_=>false
def m71(l:List D):Bool:=(B30 l (l.drop 1)).all ltP
def I02(m:Int):D->Bool
 |.tup l=>(l.all (λx=>d10 x m)&&m71 l)&&!l.isEmpty|_=>false
def short:D->Bool
 |.tup l=>decide (l.length<=1000)|_=>true
theorem J81(k:Nat)(h:∀ x∈l,d10 x m=true)(hl:l.length<=1000)(z:Z):b60 T (k + 3) x81 [.d (.tup l)] z=some (.ok (.d (.bl (m71 l))) z):=by
 have e1:cutD l (some 1) none=l.drop 1:=r20 l 1;refine W.ok (o30 (ps:=1) (ns:=1) (b:=Z60) rfl rfl (-0) (ip (c:=(B30 l (cutD l (some 1) none)).length<=most) (Ù (N40 _ _) (q00 hl)) (l01 (λx=>.bl (ltP x)) (λx hx=>?_) (a00 (I60 _ ltP) ?_ :))))
 ·obtain⟨u,hu,v,hv,rfl⟩:=Z80 hx;rw[e1] at hv;obtain⟨i,rfl,_⟩:=m30 (h u hu);obtain⟨j,rfl,_⟩:=m30 (h v (Ò0 hv));exact⟨rfl,rfl⟩
 ·exact sb (b:=(B30 l (cutD l (some 1) none)).all ltP) (by rw[e1];rfl)
theorem A10(k:Nat)(m:Int)(hs:short x=true)(z:Z):b60 T (k + 5) f60 [.d x,.d (.int m)] z=some (.ok (.d (.bl (match x with | .tup l=>l.all (λx=>d10 x m)&&m71 l | _=>false))) z):=by
 refine W.ok (o30 (ps:=2) (ns:=2) (b:=f70) rfl rfl (-0) ?_)
 cases x with
 |tup l =>
  have hl:l.length<=1000:=of_decide_eq_true hs;refine ip (q00 hl) (l01 (λx=>.bl (d10 x m)) (λx _=>Wo (u30 k x m z) ⟨rfl,rfl⟩) (a00 (I60 l λx=>d10 x m) ?_ :));refine ib (b:=l.all λx=>d10 x m) (λh=>?_) λh=>sb (show false=(l.all (λx=>d10 x m)&&m71 l) by rw[h];rfl)
  exact Wo (J81 (k + 1) (ö.mp h) hl z) (sb (show m71 l=(l.all (λx=>d10 x m)&&m71 l) by rw[h];rfl))
 |_=>exact sb rfl
theorem j80(k:Nat)(z:Z)(h:I02 m x=true)(hs:short x=true):b60 T (k + 6) f80 [.d (.tup [.int m,t]),.d x] z=some (.ok (.d .non) z):=by
 refine W.ok (o30 (ps:=2) (ns:=2) (b:=l20) rfl rfl (-0) (Wo (A10 k m hs z) ?_))
 cases x with
 |tup l =>
  have h:((l.all (λx=>d10 x m)&&m71 l)&&!l.isEmpty)=true:=h;rw[À] at h;refine ie (b:=!(l.all (λx=>d10 x m)&&m71 l)) (by rw[h.1];rfl) ?_
  cases l with
  |nil=>cases h.2
  |cons y r=>exact sd rfl
 |_=>cases h
def c70(n:Nat):D:=.int n
structure f20(m:Int)(l:List Nat):Prop where
 ne:l≠[]
 up:l.Pairwise (· < ·)
 lt:∀ p∈l,(p:Int) < m
theorem z41:∀ {l:List Nat},l.Pairwise (· < ·)->m71 (l.map c70)=true
 |[],_=>rfl|[_],_=>rfl
 |a::b::r,h=>by
  have ih:=z41 (Ô3.of_cons h);show(decide ((a:Int) < (b:Int))&&m71 ((b::r).map c70))=true;rw[ih,decide_eq_true (by have:=(Í2.mp h).1 b É;omega)];rfl
theorem f20.pls(g:f20 m l):I02 m (.tup (l.map c70))=true:=by
 show(((l.map c70).all (λx=>d10 x m)&&m71 (l.map c70))&&!(l.map c70).isEmpty)=true;rw[z41 g.up,Ü2,À];refine⟨ö.mpr λx hx=>?_,?_⟩
 ·obtain⟨p,hp,rfl⟩:=Ø.mp hx;have:=g.lt p hp;show(decide (0<=(p:Int))&&decide ((p:Int) < m))=true;rw[decide_eq_true this,decide_eq_true ∅];rfl
 ·cases l with
  |nil=>exact absurd rfl g.ne|cons _ _=>rfl
theorem f20.len(g:f20 m l)(h6:m<=6):l.length<=6:=by
 have:l.Sublist (Û 6):=by
  have e:l=(Û 6).filter λx=>l.contains x:=by
   refine Ù1 (le:=(· < ·)) ?_ g.up (É0 _ Æ9) ?_
   ·intro a b _ _ h1 h2;omega
   ·refine(Í1 (g.up.imp λh e=>by omega) (É0 _ Ó1)).mpr λa=>?_
    rw[È4,mem_range,Ê9];exact⟨λh=>⟨by have:=g.lt a h;omega,h⟩,λh=>h.2⟩
  rw[e];exact List.filter_sublist
 simpa using this.length_le
theorem J91:∀ {ys:List D}{l:List Nat},ys.Sublist (l.map c70)->∃ l':List Nat,ys=l'.map c70/\l'.Sublist l:=λ{ys l} h=>by
 obtain⟨l',h1,h2⟩:=List.sublist_map_iff.mp h;exact⟨l',h2,h1⟩
theorem z51(n:Nat):((Û n).map λ(i:Nat)=>D.int i)=(Û n).map c70:=rfl
theorem I12(a b:Int):MySort.k00 [a] [b]=decide (a < b):=by
 show(if a=b then false else decide (a < b))=_;by_cases h:a=b
 ·rw[if_pos h,h];simp
 ·rw[if_neg h]
theorem g11(a b:Nat):l90 (c70 a) (c70 b)=true:=by
 show(true&&((some (decide ((a:Int) < b)) == some (MySort.k00 [(a:Int)] [(b:Int)]))&&(((a:Int) == b) || !([(a:Int)] == [(b:Int)]))))=true;rw[I12,beq_self_eq_true,Æ3,Æ3];by_cases h:(a:Int)=b <;> simp[h]
theorem l71(x y:Nat):bfD .sorted [.lst [c70 x,c70 y]]=some (.fr [c70 (min x y),c70 (max x y)]):=by
 have ok:s20 [c70 x,c70 y]=true:=by
  refine ö.mpr λu hu=>?_;have one:∀ a:Nat,(true&&(true&&[c70 x,c70 y].all (l90 (c70 a))))=true:=λa=>by
   show(l90 (c70 a) (c70 x)&&(l90 (c70 a) (c70 y)&&true))=true;rw[g11,g11];rfl
  simp only[Á1,Â5,or_false] at hu;rcases hu with rfl | rfl
  ·exact one x
  ·exact one y
 have e:D80 [c70 x,c70 y]=[c70 (min x y),c70 (max x y)]:=by
  show(if MySort.k00 [(y:Int)] [(x:Int)] then [c70 y,c70 x] else [c70 x,c70 y])=_;rw[I12];by_cases h:(y:Int) < x
  ·rw[decide_eq_true h,if_pos rfl,Ø9 ∅,Nat.max_eq_left ∅]
  ·rw[decide_eq_false h,if_neg (-0),Ë7 ∅,Nat.max_eq_right ∅]
 show(if [c70 x,c70 y].length < 64/\s20 [c70 x,c70 y]=true then some (S.fr (D80 [c70 x,c70 y])) else _)=_;rw[if_pos ⟨by show 2 < 64;decide,ok⟩,e]
theorem V10(k:Nat)(m1:1<=m)(m6:m<=6)(hz:ZI z):W (b60 T (k + 4) x00 [.z,.d (.tup [.int m,t])]) z (λs z1=>ZI z1/\∃ l,s=.d (.tup (l.map c70))/\f20 m l) NE:=by
 have g2:f20 m (Û m.toNat):=⟨by intro h;have:=congrArg Ò2 h;rw[ì] at this;simp at this;omega,Æ9,λp hp=>by have:=ç.mp hp;omega⟩
 refine p72 hz (ps:=2) (ns:=4) (b:=n40) rfl rfl (-0) ?_
 refine(j70 k 4 hz (-0) (-0)).imp λs z1 ⟨hz1,v,e,v1⟩=>?_
 subst e;refine o82 (λρ z2=>z2=z1/\1 < m/\ρ=[some .z,some (.d (.tup [.int m,t])),some (.d (.int v)),none]) ?_ ?_
 ·refine ib (b:=decide ((v:Int) < 2)) (λh=>?_) λh=>?_
  ·refine(a00 (U70 (m:=m) ∅ ∅) ?_ :)
   exact⟨hz1,_,rfl,g2⟩
  ·refine ib (b:=m == 1) (λh=>?_) λh=>?_
   ·refine(a00 (U70 (m:=m) ∅ ∅) ?_ :)
    exact⟨hz1,_,rfl,g2⟩
   ·have h:=ne_of_beq_false h;exact⟨rfl,by omega,rfl⟩
 ·rintro ρ z2 ⟨rfl,hm,rfl⟩;refine ib (b:=(v:Int) == 2) (λh=>?_) λh=>?_
  ·refine(j70 k m hz1 ∅ ∅).imp λs z3 ⟨hz3,a,e,ha⟩=>?_
   subst e;refine(j70 k (m - 1) hz3 ∅ ∅).imp λs z4 ⟨hz4,b,e,hb⟩=>?_
   subst e;refine(a00 (l11 (i:=(a:Int) + 1 + b) (j:=m) ∅) ?_ :)
   have hq:0<=((a:Int) + 1 + b) % m/\((a:Int) + 1 + b) % m < m/\((a:Int) + 1 + b) % m≠a:=by
    refine⟨Ó3 _ ∅,emod_lt_of_pos _ ∅,?_⟩
    by_cases h:(a:Int) + 1 + b < m
    ·rw[Ï0 ∅ h];omega
    ·rw[show(a:Int) + 1 + b=((a:Int) + 1 + b - m) + m from by omega,Int.add_emod_right,Ï0 ∅ ∅];omega
   generalize ((a:Int) + 1 + b) % m=q at hq ⊢;obtain⟨q,rfl⟩:=Ð6 hq.1;refine(a00 (l71 a q) ?_ :);refine⟨hz4,[min a q,max a q],rfl,by simp,?_,λp hp=>?_⟩
   ·refine .cons (λx hx=>?_) (.cons (λ_ h=>nomatch h) .nil);rw[ñ.mp hx];omega
   ·simp only[Á1,Â5,or_false] at hp;rcases hp with rfl | rfl <;> omega
  ·refine(a00 (U70 (m:=m) ∅ ∅) ?_ :)
   refine ip (by rw[Ç,ì];simp only[most];omega) (p32 (I:=ZI) (λx=>x) hz1 (λx hx z3 hz3=>?_) λys z3 hz3 hs=>?_)
   ·refine(j70 k 2 hz3 (-0) (-0)).imp λs z4 ⟨hz4,a,e,a1⟩=>?_
    subst e;exact⟨hz4,(a:Int) == 1,rfl,λ_=>⟨rfl,rfl⟩⟩
   ·rw[List.map_id',z51] at hs;obtain⟨l,rfl,hl⟩:=J91 hs;cases l with
    |nil =>
     refine⟨hz3,[m.toNat - 1],?_,by simp,.cons (λ_ h=>nomatch h) .nil,λq hq=>by rw[ñ.mp hq];omega⟩
     show S.d (.tup [.int (m - 1)])=S.d (.tup [.int ((m.toNat - 1:Nat):Int)]);rw[show(m - 1)=((m.toNat - 1:Nat):Int) by omega]
    |cons p r=>exact⟨hz3,p::r,rfl,by simp,Ô3.sublist hl Æ9,λq hq=>by have:=ç.mp (hl.mem hq);omega⟩
section
variable (ps:List (Int × Int))
abbrev tA(n:Nat):Nat:=(ps.getD n (0,0)).1.toNat
abbrev tB(n:Nat):Nat:=(ps.getD n (0,0)).2.toNat
def i40(mk:List Int)(n:Nat):List Int:=mk.map λx=>if x=mk.getD (tB ps n) 0 then mk.getD (tA ps n) 0 else x
def b90(m:Nat)(lot:List Nat):List Int:=lot.foldl (i40 ps) ((Û m).map λ(i:Nat)=>(i:Int))
def z61(mk:List Int)(pl:List Nat):Bool:=pl.all λp=>mk.getD p 0 == mk.getD (pl.getD 0 0) 0
def b80(m:Nat)(pl lot:List Nat):Bool:=z61 (b90 ps m lot) pl
variable {ps}
theorem N80(mk:List Int)(n:Nat):(i40 ps mk n).length=mk.length:=Ç _
theorem step_get(h:x < mk.length):(i40 ps mk n).getD x 0=if mk.getD x 0=mk.getD (tB ps n) 0 then mk.getD (tA ps n) 0 else mk.getD x 0:=by
 unfold i40;rw[Í,Ö,Ò h];simp[Í,Ò h]
theorem g30:(b90 ps m lot).length=m:=by
 unfold b90;have:∀ (l:List Nat) (mk:List Int),(l.foldl (i40 ps) mk).length=mk.length:=by
  intro l
  induction l with
  |nil=>intro mk;rfl|cons n r ih=>intro mk;rw[foldl_cons,ih,N80]
 rw[this];simp
theorem l81(hr:∀ n < ps.length,tA ps n < m/\tB ps n < m):∀ (lot:List Nat) (mk:List Int),mk.length=m->(∀ n∈lot,n < ps.length) ->
  (∀ x y,x < m->y < m->mk.getD x 0=mk.getD y 0->(lot.foldl (i40 ps) mk).getD x 0=(lot.foldl (i40 ps) mk).getD y 0)/\(∀ n∈lot,(lot.foldl (i40 ps) mk).getD (tA ps n) 0=(lot.foldl (i40 ps) mk).getD (tB ps n) 0) /\
  ∀ f:Nat->Int,(∀ x y,x < m->y < m->mk.getD x 0=mk.getD y 0->f x=f y)->(∀ n∈lot,f (tA ps n)=f (tB ps n))->∀ x y,x < m->y < m->(lot.foldl (i40 ps) mk).getD x 0=(lot.foldl (i40 ps) mk).getD y 0->f x=f y:=by
 intro lot
 induction lot with
 |nil=>exact λmk _ _=>⟨λ_ _ _ _ h=>h,(λ_ h=>nomatch h),λf h _=>h⟩
 |cons n r ih =>
  intro mk hl hn;obtain⟨ha,hb⟩:=hr n (hn n É);obtain⟨i1,i2,i3⟩:=ih (i40 ps mk n) (by rw[N80];exact hl) λk hk=>hn k (Å _ hk)
  have st:∀ x,x < m->(i40 ps mk n).getD x 0=if mk.getD x 0=mk.getD (tB ps n) 0 then mk.getD (tA ps n) 0 else mk.getD x 0:=λx hx=>step_get ∅
  refine⟨λx y hx hy h=>i1 x y hx hy (by rw[st x hx,st y hy,h]),λk hk=>?_,λf h1 h2=>?_⟩
  ·rcases ß.mp hk with rfl | hk
   ·refine i1 _ _ ha hb ?_;rw[st _ ha,st _ hb,if_pos rfl];split <;> rfl
   ·exact i2 k hk
  ·refine i3 f (λx y hx hy h=>?_) λk hk=>h2 k (Å _ hk);have e:=h2 n É;rw[st x hx,st y hy] at h;split at h
   ·rename_i hxb;have fx:=h1 _ _ hx hb hxb;split at h
    ·rename_i hyb;rw[fx,h1 _ _ hy hb hyb]
    ·rw[fx,← e];exact h1 _ _ ha hy h
   ·split at h
    ·rename_i hyb;rw[h1 _ _ hy hb hyb,← e];exact h1 _ _ hx ha h
    ·exact h1 _ _ hx hy h
theorem V20(h:x < m):(((Û m).map λ(i:Nat)=>(i:Int))).getD x 0=(x:Int):=by
 rw[Í,Ö,Ì0 h];rfl
theorem g21{m:Nat}(hr:∀ n < ps.length,tA ps n < m/\tB ps n < m){pl lot:List Nat}(hp:∀ p∈pl,p < m)(hl:∀ n∈lot,n < ps.length):b80 ps m pl lot=true↔∀ f:Nat->Int,(∀ n∈lot,f (tA ps n)=f (tB ps n))->∀ p∈pl,f p=f (pl.getD 0 0):=by
 obtain⟨_,h2,h3⟩:=l81 hr lot ((Û m).map λ(i:Nat)=>(i:Int)) (by simp) hl
 unfold b80 z61;rw[Â6];have h0:∀ p∈pl,pl.getD 0 0 < m:=λp hp'=>by
  cases pl with
  |nil=>cases hp'
  |cons q r=>exact hp q É
 constructor
 ·intro h f hf p hp';refine h3 f (λx y hx hy e=>?_) hf p _ (hp p hp') (h0 p hp') (beq_iff_eq.mp (h p hp'));rw[V20 hx,V20 hy] at e;rw[Int.ofNat_inj.mp e]
 ·intro h p hp';rw[beq_iff_eq];exact h (λx=>(b90 ps m lot).getD x 0) h2 p hp'
theorem good_mono{m:Nat}(hr:∀ n < ps.length,tA ps n < m/\tB ps n < m){pl a b:List Nat}(hp:∀ p∈pl,p < m)(hb:∀ n∈b,n < ps.length)(hab:∀ n∈a,n∈b)(h:b80 ps m pl a=true):b80 ps m pl b=true :=
 (g21 hr hp hb).mpr λf hf=>(g21 hr hp λn hn=>hb n (hab n hn)).mp h f λn hn=>hf n (hab n hn)
end
section
variable (g:List Nat->Bool) (c:Nat->Int × Int)
def tot:List Nat->List Nat->Int
 |[],h=>if g h then 1 else 0|n::r,h=>(c n).1 * tot r (n::h) + ((c n).2 - (c n).1) * tot r h
def s60(ns:List Nat):Int:=(ns.map λn=>(c n).2).foldr (· * ·) 1
variable {g c}
theorem e40(n:Nat)(r:List Nat):s60 c (n::r)=(c n).2 * s60 c r:=rfl
theorem V30(h:a.Perm b):s60 c a=s60 c b:=by
 induction h with
 |nil=>rfl|cons x _ ih=>rw[e40,e40,ih]|swap x y l=>rw[e40,e40,e40,e40,← Ð7,← Ð7,Ã1 (c y).2]|trans _ _ h1 h2=>rw[h1,h2]
def s92(N:Nat)(g:List Nat->Bool):Prop:=∀ a b:List Nat,(∀ n∈a,n < N)->(∀ n∈b,n < N)->(∀ n,n∈a↔n∈b)->g a=g b
theorem N90(hg:s92 N g):∀ (ns a b:List Nat),(∀ n∈ns,n < N)->(∀ n∈a,n < N)->(∀ n∈b,n < N)->(∀ n,n∈a↔n∈b)->tot g c ns a=tot g c ns b
 |[],a,b,_,ha,hb,h=>by unfold tot;rw[hg a b ha hb h]
 |n::r,a,b,hn,ha,hb,h=>by
  have hr:∀ k∈r,k < N:=λk hk=>hn k (Å _ hk);have hc:∀ {l:List Nat},(∀ n∈l,n < N)->∀ k∈n::l,k < N:=λhl k hk=>by
   rcases ß.mp hk with rfl | hk
   ·exact hn _ É
   ·exact hl k hk
  unfold tot;rw[N90 hg r a b hr ha hb h,N90 hg r (n::a) (n::b) hr (hc ha) (hc hb) λk=>by rw[Á1,Á1,h k]]
theorem O00(hg:s92 N g)(h:a.Perm b):∀ held:List Nat,(∀ n∈a,n < N)->(∀ n∈held,n < N)->tot g c a held=tot g c b held:=by
 induction h with
 |nil=>exact λ_ _ _=>rfl
 |cons x h ih =>
  intro held ha hh;have hr:=λk hk=>ha k (Å _ hk);unfold tot;rw[ih held hr hh,ih (x::held) hr λk hk=>by
   rcases ß.mp hk with rfl | hk
   ·exact ha _ É
   ·exact hh k hk]
 |swap x y l =>
  intro held ha hh;have hl:∀ k∈l,k < N:=λk hk=>ha k (Å _ (Å _ hk));have hx:=ha x (Å _ É);have hy:=ha y É;have hxy:∀ k∈[x,y]++held,k < N:=λk hk=>by
   simp only[Ó4,É1,Á1] at hk;rcases hk with rfl | rfl | hk
   ·exact hx
   ·exact hy
   ·exact hh k hk
  have e:=N90 (c:=c) hg l (x::y::held) (y::x::held) hl hxy (λk hk=>hxy k (by simp only[Ó4,É1,Á1] at hk ⊢;rcases hk with h | h | h <;> simp[h])) λk=>by simp only[Á1];constructor <;> (rintro (h | h | h) <;> simp[h])
  simp only[tot];rw[e];generalize tot g c l (y::x::held)=t1;generalize tot g c l (y::held)=t2;generalize tot g c l (x::held)=t3;generalize tot g c l held=t4;generalize (c x).1=p;generalize (c x).2=q;generalize (c y).1=u;generalize (c y).2=v
  grind
 |trans h1 h2 i1 i2=>exact λheld ha hh=>(i1 held ha hh).trans (i2 held (λk hk=>ha k (h1.mem_iff.mpr hk)) hh)
def c30:Nat->List (List Nat)
 |0=>[[]]|j + 1=>c30 j++(c30 j).map (·++[j])
def amt(c:Nat->Int × Int)(j:Nat)(lot:List Nat):Int:=(Û j).foldl (λa n=>a * (if n∈lot then(c n).1 else(c n).2 - (c n).1)) 1
theorem k90:amt c (j + 1) lot=amt c j lot * (if j∈lot then(c j).1 else(c j).2 - (c j).1):=by
 unfold amt;rw[Î4,List.foldl_append];rfl
theorem z71(h:j<=k):amt c j (lot++[k])=amt c j lot:=by
 induction j with
 |zero=>rfl
 |succ j ih =>
  rw[k90,k90,ih ∅]
  have:j∈lot++[k]↔j∈lot:=by rw[mem_append,ñ];constructor <;> (intro h;first | (rcases h with h | h;exact h;omega) | exact .inl h)
  simp only[this]
theorem u50:∀ {j:Nat}{lot:List Nat},lot∈c30 j->∀ n∈lot,n < j
 |0,lot,h,n,hn=>by rw[ñ.mp h] at hn;cases hn
 |j + 1,lot,h,n,hn=>by
  rcases Á0.mp h with h | h
  ·exact Ë3 (u50 h n hn)
  ·obtain⟨l,hl,rfl⟩:=Ø.mp h;rcases Á0.mp hn with hn | hn
   ·exact Ë3 (u50 hl n hn)
   ·rw[ñ.mp hn];exact Ù0 j
def desc:Nat->List Nat
 |0=>[]|j + 1=>j::desc j
def e30(l:List (List Nat))(f:List Nat->Int):Int:=(l.map f).foldr (· + ·) 0
theorem O10:e30 (a++b) f=e30 a f + e30 b f:=by
 unfold e30;rw[À5]
 induction a with
 |nil=>simp|cons x r ih=>simp only[Â0,Ó4,List.foldr_cons,ih,Int.add_assoc]
theorem C20(e:∀ x∈a,h x=k * f x):e30 a h=k * e30 a f:=by
 unfold e30
 induction a with
 |nil=>simp|cons x r ih=>simp only[Â0,List.foldr_cons,ih λy hy=>e y (Å _ hy),e x É,Int.mul_add]
theorem C30:e30 (a.map t) f=e30 a λx=>f (t x):=by
 unfold e30;rw[ô];rfl
theorem O20(hg:s92 N g):∀ (j:Nat) (held:List Nat),j<=N->(∀ n∈held,n < N)->e30 (c30 j) (λlot=>if g (lot++held) then amt c j lot else 0)=tot g c (desc j) held
 |0,held,_,_=>by
  show(if g ([]++held) then amt c 0 [] else 0) + 0=_;rw[Ó5];rfl
 |j + 1,held,hj,hh=>by
  have hc:∀ k∈j::held,k < N:=λk hk=>by
   rcases ß.mp hk with rfl | hk
   ·omega
   ·exact hh k hk
  show e30 (c30 j++(c30 j).map (·++[j])) _=(c j).1 * tot g c (desc j) (j::held) + ((c j).2 - (c j).1) * tot g c (desc j) held;rw[O10,C30,← O20 hg j held ∅ hh,← O20 hg j (j::held) ∅ hc,Int.add_comm]
  congr 1
  ·refine C20 λlot hl=>?_;have lt:=u50 hl;have e:g (lot++[j]++held)=g (lot++j::held):=by rw[Æ1];rfl
   rw[e];split
   ·rw[k90,z71 (Ì j),if_pos (by simp),Ã1]
   ·rw[Int.mul_zero]
  ·refine C20 λlot hl=>?_;have lt:=u50 hl;split
   ·rw[k90,if_neg (λh=>ÿ _ (lt j h)),Ã1]
   ·rw[Int.mul_zero]
theorem V40:∀ n:Nat,(desc n).Perm (Û n)
 |0=>.refl _
 |n + 1=>by
  rw[Î4];exact((V40 n).cons n).trans (List.perm_append_singleton n (Û n)).symm
end
theorem itE{it:It}{e:Ex}{l:List S}{ρ:Env}(h:S50 l=true):s21 it e l ρ=S60 it e l ρ:=by unfold s21;rw[h,S40];rfl
theorem r30:∀ l:List Nat,k20 (l.map c70)=true
 |[]=>rfl|_::r=>r30 r
structure Row(x:D)(lot:List Nat):Prop where
 sq:c51 x=some (lot.map c70)
 br:U71 x=true
theorem Row.t(lot:List Nat):Row (.tup (lot.map c70)) lot:=⟨rfl,r30 lot⟩
theorem Row.ba(h:Row x lot):S50 [.d x]=true:=by
 show(U71 x&&true)=true;rw[h.br];rfl
theorem z81{mk:List Int}{a:Int}(h0:0<=a)(h:a.toNat < mk.length):j81 (.lst (mk.map D.int)) (.int a)=some (.int (mk.getD a.toNat 0)):=by
 obtain⟨n,rfl⟩:=Ð6 h0;rw[Â3] at h ⊢;rw[Í,Ò h];exact y71 (Z71 h)
theorem q22{ps:List (Int × Int)}{n:Nat}(h:n < ps.length):j81 (.tup (ps.map pr)) (.int n)=some (pr (ps.getD n (0,0))):=by
 rw[Í,Ò h];exact Z81 (by rw[Ö,Ò h];rfl)
theorem getD_mem{ps:List (Int × Int)}{n:Nat}(h:n < ps.length):ps.getD n (0,0)∈ps:=by
 rw[Í,Ò h];exact Å8 h
theorem c60.rng{m:Int}{ps:List (Int × Int)}(g:c60 m ps):∀ n < ps.length,tA ps n < m.toNat/\tB ps n < m.toNat:=λn hn=>by
 have:=g.tie _ (getD_mem hn);unfold tA tB;omega
def I22(a b:Int):D->D
 |.int v=>.int (if v=b then a else v)|x=>x
theorem a52{F:FT}{z:Z}{mk:List Int}(a b:Int){Q:List D->Z->Prop}{E:Nat->Z->Prop}(q:Q ((mk.map λx=>if x=b then a else x).map D.int) z):W (turns (r80 (ev F .nil) (ev F (.ite (.cmp .eq (.var 0) (.var 2)) (.var 1) (.var 0))) (.v 0) [none,some (.d (.int a)),some (.d (.int b))]) (mk.map D.int)) z Q E:=by
 refine l01 (I22 a b) (λx hx=>?_) ?_
 ·obtain⟨v,_,rfl⟩:=Ø.mp hx;refine ib (b:=v == b) (λh=>⟨?_,rfl⟩) λh=>⟨?_,rfl⟩
  ·show D.int a=.int (if v=b then a else v);rw[if_pos (beq_iff_eq.mp h)]
  ·show D.int v=.int (if v=b then a else v);rw[if_neg (by simpa using h)]
 ·have e:(mk.map D.int).map (I22 a b)=(mk.map λx=>if x=b then a else x).map D.int:=by rw[ô,ô];rfl
  rw[e];exact q
theorem F80(k:Nat){m:Int}{ps:List (Int × Int)}(g:c60 m ps){x:D}{lot:List Nat}(hx:Row x lot)(hl:∀ n∈lot,n < ps.length)(z:Z):b60 T (k + 3) y50 [.d (C10 m ps),.d x] z=some (.ok (.fr ((b90 ps m.toNat lot).map D.int)) z):=by
 have m6:=g.m6;have m1:=g.m1;refine W.ok (o30 (ps:=2) (ns:=10) (b:=y80) rfl rfl (-0) ?_)
 refine(a00 (o:=lrD [.int m]) (U70 ∅ ∅) ?_ :)
 refine a00 (o:=c51 x) hx.sq ?_;refine M80 (λxs ρ z1=>z1=z/\∃ (rest:List Nat) (mk:List Int) (o5 o6 o7 o8 o9:Option S),xs=rest.map c70/\(∀ n∈rest,n < ps.length)/\mk.length=m.toNat/\rest.foldl (i40 ps) mk=b90 ps m.toNat lot/\ρ=[some (.d (C10 m ps)),some (.d x),some (.d (.int m)),some (.d (.tup (ps.map pr))),some (.fr (mk.map D.int)),o5,o6,o7,o8,o9]) _ ⟨rfl,lot,(Û m.toNat).map λ(i:Nat)=>(i:Int),none,none,none,none,none,rfl,hl,by simp,rfl,(itE hx.ba).trans ?_⟩ ?_ ?_
 ·rw[← J51];rfl
 ·rintro y r ρ z1 ⟨rfl,rest,mk,o5,o6,o7,o8,o9,e,hr,hm,hf,rfl⟩;cases rest with
  |nil=>cases e
  |cons n rest =>
   cases e;have hn:=hr n É;have ht:=g.tie _ (getD_mem hn);refine(a00 (q22 hn) ?_ :);refine(a00 (z81 (mk:=mk) ht.1 ∅) ?_ :)
   refine(a00 (z81 (mk:=mk) (a:=(ps.getD n (0,0)).2) ∅ ∅) ?_ :)
   refine ip (by rw[Ç];simp only[most];omega) (a52 _ _ ?_)
   exact⟨rfl,rest,i40 ps mk n,_,_,_,_,_,rfl,λk hk=>hr k (Å _ hk),by rw[N80];exact hm,hf,rfl⟩
 ·rintro ρ z1 ⟨rfl,rest,mk,o5,o6,o7,o8,o9,e,hr,hm,hf,rfl⟩;cases rest with
  |nil=>exact sd (by rw[← hf];rfl)|cons _ _=>cases e
section
variable {m:Int}{ps:List (Int × Int)}{pl lot:List Nat}
theorem q32{mk:List Int}{p:Nat}(h:p < mk.length):j81 (.lst (mk.map D.int)) (.int p)=some (.int (mk.getD p 0)):=z81 (a:=(p:Int)) ∅ (by rw[Â3];exact h)
theorem q42(h:pl≠[]):j81 (.tup (pl.map c70)) (.int 0)=some (c70 (pl.getD 0 0)):=by
 cases pl with
 |nil=>exact absurd rfl h|cons p r=>exact Z81 (j:=0) rfl
theorem f20.p0(hp:f20 m pl):pl.getD 0 0 < m.toNat:=by
 have h:=hp.ne;have h2:=hp.lt;cases pl with
 |nil=>exact absurd rfl h|cons p r=>have:=h2 p É;show p < _;omega
def eqM(mk:List Int)(p0:Nat):D->Bool
 |.int p=>mk.getD p.toNat 0 == mk.getD p0 0|_=>false
theorem a62(l:List Nat):(l.map c70).all (eqM mk p0)=l.all λp=>mk.getD p 0 == mk.getD p0 0:=by rw[all_map];rfl
theorem x20(k:Nat)(g:c60 m ps)(hp:f20 m pl){x:D}(hx:Row x lot)(hl:∀ n∈lot,n < ps.length)(z:Z):b60 T (k + 4) p20 [.d (C10 m ps),.d x,.d (.tup (pl.map c70))] z=some (.ok (.d (.bl (b80 ps m.toNat pl lot))) z):=by
 have hlen:=hp.len g.m6;refine W.ok (o30 (ps:=3) (ns:=4) (b:=p50) rfl rfl (-0) (Wo (F80 k g hx hl z) ?_))
 have ml:(b90 ps m.toNat lot).length=m.toNat:=g30;generalize hmk:b90 ps m.toNat lot=mk at ml;refine ip (by rw[Ç];simp only[most];omega) (l01 (λx=>.bl (eqM mk (pl.getD 0 0) x)) (λy hy=>?_) (a00 (I60 _ (eqM mk (pl.getD 0 0))) ?_ :))
 ·obtain⟨p,hp',rfl⟩:=Ø.mp hy;have:=hp.lt p hp';refine(a00 (q32 (mk:=mk) (p:=p) ∅) ?_ :)
  refine(a00 (q42 hp.ne) ?_ :);refine(a00 (q32 (mk:=mk) (by rw[ml];exact hp.p0)) ?_ :)
  exact⟨rfl,rfl⟩
 ·refine sb (b:=(pl.map c70).all (eqM mk (pl.getD 0 0))) ?_;rw[a62,← hmk];rfl
end
def g80(l:List Nat):D:=.tup (l.map c70)
theorem O30:∀ {j:Nat}{lot:List Nat},lot∈c30 j->lot.length<=j
 |0,lot,h=>by rw[ñ.mp h];exact Ì _
 |j + 1,lot,h=>by
  rcases Á0.mp h with h | h
  ·exact Ö3 (O30 h)
  ·obtain⟨l,hl,rfl⟩:=Ø.mp h;rw[s72];exact É8 (O30 hl)
theorem C40:∀ j:Nat,(c30 j).length=2 ^ j
 |0=>rfl
 |j + 1=>by
  show(c30 j++(c30 j).map (·++[j])).length=_;rw[À0,Ç,C40 j,Nat.pow_succ];omega
theorem z91(h:j<=8):2 ^ j<=256:=Ç8 (n:=2) (-0) h
theorem add_l(h:a.length + b.length<=1000):x90 .add (.lst a) (.lst b)=some (.fr (a++b)):=by
 show(if a.length + b.length<=most then some (S.fr (a++b)) else none)=_;rw[if_pos (q00 h)]
theorem A01(h:a.length + b.length<=1000):x90 .add (.tup a) (.tup b)=some (.d (.tup (a++b))):=by
 show(if a.length + b.length<=most then some (S.d (.tup (a++b))) else none)=_;rw[if_pos (q00 h)]
def I32(j:Nat):D->D
 |.tup l=>.tup (l++[c70 j])|x=>x
theorem K01:((c30 j).map g80).map (I32 j)=((c30 j).map (·++[j])).map g80:=by
 rw[ô,ô];refine Ä0 λl _=>?_;show D.tup (l.map c70++[c70 j])=.tup ((l++[j]).map c70);rw[À5];rfl
theorem a31{n:Nat}(h:n < 100000):itD .rng1 [.int n]=some ((Ã8 0 n).map c70):=by
 rw[U70 ∅ ∅,Â3,Ì2];rfl
abbrev cf(cs:List (Int × Int))(n:Nat):Int × Int:=cs.getD n (0,1)
def b30(cs:List (Int × Int)):Int:=(cs.map (·.2)).foldr (· * ·) 1
theorem A11:s60 (cf cs) (Û cs.length)=b30 cs:=by
 unfold s60 b30
 congr 1
 refine List.ext_getElem (by simp) λi h1 h2=>?_
 have hi:i < cs.length:=by simpa using h1
 simp[Í,Ò hi]
theorem l40:∀ {cs:List (Int × Int)},(∀ c∈cs,IsC c)->0 < b30 cs/\b30 cs<=2 ^ (10 * cs.length)
 |[],_=>by decide
 |c::r,h=>by
  obtain⟨h1,h2⟩:=l40 λd hd=>h d (Å _ hd);obtain⟨c1,c2,_⟩:=h c É;refine⟨Æ0 (show(0:Int) < c.2 by omega) h1,?_⟩
  show c.2 * b30 r<=_;rw[Ú,mul_add,pow_add,Ã1];exact mul_le_mul h2 ∅ ∅ (by have:=Å9 (Á6 h1) h2;exact this)
theorem IsC.w(h:IsC c)(b:Prop)[Decidable b]:0<=(if b then c.1 else c.2 - c.1)/\(if b then c.1 else c.2 - c.1)<=1000:=by
 obtain⟨c1,c2,c3,c4,_⟩:=h;split <;> omega
theorem a41(ha:∀ c∈cs,IsC c)(h:n < cs.length):IsC (cf cs n):=ha _ (by rw[cf,Í,Ò h];exact Å8 h)
theorem F90(ha:∀ c∈cs,IsC c):∀ {j:Nat},j<=cs.length->0<=amt (cf cs) j lot/\amt (cf cs) j lot<=2 ^ (10 * j)
 |0,_=>by show(0:Int)<=1/\(1:Int)<=1;omega
 |j + 1,h=>by
  obtain⟨h1,h2⟩:=F90 (lot:=lot) ha (j:=j) ∅
  obtain⟨w1,w2⟩:=(a41 ha (n:=j) ∅).w (j∈lot)
  rw[k90];refine⟨Ê7 h1 w1,?_⟩;rw[mul_add,pow_add];exact mul_le_mul h2 ∅ w1 (by have:=Å9 h1 h2;exact this)
theorem g31(n:Nat):∀ l:List Nat,memD (c70 n) (l.map c70)=decide (n∈l)
 |[]=>rfl
 |x::r=>by
  show((x:Int) == (n:Int) || memD (c70 n) (r.map c70))=_;rw[g31 n r,Ë9,Å1,beq_iff_eq,decide_eq_true_eq,decide_eq_true_eq,Á1];constructor
  ·rintro (h | h)
   ·exact .inl ∅
   ·exact .inr h
  ·rintro (h | h)
   ·exact .inl ∅
   ·exact .inr h
theorem A21(l:List Nat):c02 (l.map c70)=true:=by
 have e:l.map c70=(l.map λ(n:Nat)=>(n:Int)).map D.int:=by rw[ô];rfl
 obtain⟨h1,h2⟩:=y61 (l.map λ(n:Nat)=>(n:Int));unfold c02;rw[e,h1,h2];rfl
theorem a51{n:Nat}{l:List Nat}:C41 (c70 n) (l.map c70)=some (decide (n∈l)):=by
 unfold C41;rw[A21,g31];rfl
theorem q52{n:Nat}(h:n < cs.length):j81 (.tup (cs.map pr)) (.int n)=some (pr (cf cs n)):=by
 rw[cf,Í,Ò h];exact Z81 (by rw[Ö,Ò h];rfl)
section
variable {m:Int}{ps cs:List (Int × Int)}{pl:List Nat}
theorem O40(g:c60 m ps)(hp:f20 m pl):s92 ps.length (b80 ps m.toNat pl):=λa b ha hb h=>by
 have hm:∀ p∈pl,p < m.toNat:=λp q=>by have:=hp.lt p q;omega
 rw[Ë9];exact⟨good_mono g.rng hm hb λn hn=>(h n).mp hn,good_mono g.rng hm ha λn hn=>(h n).mpr hn⟩
theorem a72(g:c60 m ps)(hp:f20 m pl):∀ a b:List Nat,(∀ n∈b,n < ps.length)->(∀ n∈a,n∈b)->b80 ps m.toNat pl a=true->b80 ps m.toNat pl b=true:=λ_ _ hb hab h=>good_mono g.rng (λp q=>by have:=hp.lt p q;omega) hb hab h
def a60(m:Int)(ps cs:List (Int × Int))(pl:List Nat):Int × Int:=d00 (e30 (c30 ps.length) λlot=>if b80 ps m.toNat pl lot then amt (cf cs) ps.length lot else 0) (b30 cs)
theorem x30(g:c60 m ps)(hp:f20 m pl)(hc:cs.length=ps.length):a60 m ps cs pl=d00 (tot (b80 ps m.toNat pl) (cf cs) (Û ps.length) []) (s60 (cf cs) (Û ps.length)):=by
 have hg:=O40 g hp;have h1:=O20 (c:=cf cs) hg ps.length [] (Ì _) (λ_ h=>nomatch h);simp only[Ë0] at h1;have hd:=V40 ps.length;unfold a60;rw[h1,O00 hg hd [] (λn hn=>ç.mp (hd.mem_iff.mp hn)) (λ_ h=>nomatch h),← hc,A11]
end
def frees(K:Nat)(held lack:List Nat):List Nat:=(Û K).filter λn=>!(held.contains n || lack.contains n)
theorem x40:n∈frees K held lack↔n < K/\n ∉ held/\n ∉ lack:=by
 unfold frees;rw[È4,mem_range,ø,Bool.or_eq_false_iff,Ì4,Ì4,decide_eq_false_iff_not,decide_eq_false_iff_not]
theorem g41:(frees K held lack).Nodup:=É0 _ Ó1
theorem l91(h1:n < K)(h2:n ∉ lack)(h3:n ∉ held):(frees K held lack).Perm (n::frees K held (lack++[n])):=by
 refine(Í1 g41 (Æ2.mpr ⟨λh=>(x40.mp h).2.2 (è _ (ñ.mpr rfl)),g41⟩)).mpr λk=>?_;rw[Á1,x40,x40,mem_append,ñ];constructor
 ·rintro ⟨a,b,c⟩;by_cases e:k=n
  ·exact .inl e
  ·exact .inr ⟨a,b,λh=>h.elim c e⟩
 ·rintro (rfl | ⟨a,b,c⟩)
  ·exact⟨h1,h3,h2⟩
  ·exact⟨a,b,λh=>c (.inl h)⟩
section
variable {g:List Nat->Bool}{c:Nat->Int × Int}
theorem V50:∀ (ns held:List Nat),(∀ n∈ns,IsC (c n))->0<=tot g c ns held/\tot g c ns held<=s60 c ns
 |[],held,_=>by
  unfold tot;show _/\_<=1;split <;> decide
 |n::r,held,h=>by
  obtain⟨c1,c2,c3,c4,_⟩:=h n É;have hr:=λk hk=>h k (Å _ hk);obtain⟨a0,a1⟩:=V50 r (n::held) hr;obtain⟨b0,b1⟩:=V50 r held hr;unfold tot;rw[e40];have p1:=Ê7 c3 a0;have p2:=Ê7 (show 0<=(c n).2 - (c n).1 by omega) b0
  have q1:=ë a1 c3;have q2:=ë b1 (show 0<=(c n).2 - (c n).1 by omega)
  refine⟨by omega,?_⟩
  have e:(c n).2 * s60 c r=(c n).1 * s60 c r + ((c n).2 - (c n).1) * s60 c r:=by rw[← add_mul];congr 1;omega
  omega
theorem G00:∀ {ns:List Nat},(∀ n∈ns,IsC (c n))->0 < s60 c ns/\s60 c ns<=2 ^ (10 * ns.length)
 |[],_=>by show(0:Int) < 1/\(1:Int)<=1;omega
 |n::r,h=>by
  obtain⟨h1,h2⟩:=G00 λk hk=>h k (Å _ hk);obtain⟨c1,c2,_⟩:=h n É;rw[e40];refine⟨Æ0 ∅ h1,?_⟩
  rw[Ú,mul_add,pow_add,Ã1];exact mul_le_mul h2 ∅ ∅ (Å9 (Á6 h1) h2)
end
structure Fr(v:Int × Int)(t b:Int):Prop where
 t0:0<=v.1
 b0:0 < v.2
 one:gcd v.1 v.2=1
 eq:v.1 * b=v.2 * t
theorem Fr.bd(h:Fr v t b)(hb:0 < b)(ht:t<=b)(hn:b<=2 ^ n):Bd n v:=by
 refine⟨h.t0,?_,h.b0,?_⟩
 ·refine Î1 (a:=b) ?_ hb;rw[h.eq];exact ë ht (Á6 h.b0)
 ·exact Å9 (le_of_dvd hb (z21 h.one ⟨t,h.eq⟩)) hn
theorem V60(h0:0 < b):(d00 t b).1 * b=(d00 t b).2 * t:=by
 obtain⟨e1,e2⟩:=N60 (t:=t) h0;generalize (d00 t b).1=x at *
 generalize (d00 t b).2=y at *
 generalize ((gcd t b:Nat):Int)=k at *
 rw[e1,e2]
 grind
theorem Fr.low(hb:0 < b)(ht:0<=t):Fr (d00 t b) t b:=⟨Ú5 ht (Á6 (q10 hb)),F70 hb,a21 hb,V60 hb⟩
def g40(k:Nat):List (List Nat):=(TS.sN k).map (TS.D50 k 0)
theorem V70(h:k<=8):c30 k=(Û (2 ^ k)).map (TS.D50 k 0):=by
 have:∀ k,k < 9->c30 k=(Û (2 ^ k)).map (TS.D50 k 0):=by decide +kernel
 exact this k ∅
theorem e10(h:k<=8):(g40 k).Perm (c30 k):=by
 have:∀ k,k < 9->(TS.sN k).isPerm (Û (2 ^ k))=true:=by decide +kernel
 rw[V70 h];exact(List.isPerm_iff.mp (this k ∅)).map _
theorem q62(h:k<=8):(c30 k).map g80=i00 k:=by
 rw[V70 h];unfold i00;rw[ô];rfl
theorem a61(h:k<=8):bfD .sorted [.lst ((c30 k).map g80)]=some (.fr ((g40 k).map g80)):=by
 have h1:∀ k,k < 9->s20 (i00 k)=false:=by decide +kernel
 have h2:∀ k,k < 9->((Û 9).find? λj=>W20 (i00 k) (i00 j))=some k:=by decide +kernel
 rw[q62 h];show(if (i00 k).length < 64/\s20 (i00 k)=true then some (S.fr (D80 (i00 k))) else((((Û 9).find? λj=>W20 (i00 k) (i00 j)).map G71).map S.fr))=_;rw[if_neg (λq=>by rw[h1 k ∅] at q;cases q.2),h2 k ∅]
 show some (S.fr (G71 k))=some (S.fr ((g40 k).map g80));rw[g40,ô];rfl
theorem g51{i:Nat}(hi:T[i]?=some (.code 1 3 r10))(k:Nat){m:Int}{ts:List D}(h8:ts.length<=8)(z:Z):b60 T (k + 3) i [.d (.tup [.int m,.tup ts])] z=some (.ok (.fr ((g40 ts.length).map g80)) z):=by
 refine W.ok (o30 (ps:=1) (ns:=3) (b:=r10) hi rfl (-0) ?_)
 refine(a00 (a31 (n:=ts.length) ∅) ?_ :)
 refine M80 (λxs ρ z1=>z1=z/\∃ (j r:Nat) (o2:Option S),j + r=ts.length/\xs=(Ã8 j r).map c70/\ρ=[some (.d (.tup [.int m,.tup ts])),some (.fr ((c30 j).map g80)),o2]) _ ⟨rfl,0,ts.length,none,Nat.zero_add _,rfl,rfl⟩ ?_ ?_
 ·rintro x r ρ z1 ⟨rfl,j,r',o2,hj,e,rfl⟩;cases r' with
  |zero=>cases e
  |succ r' =>
   rw[Ï9] at e;cases e;have hp:=z91 (j:=j) ∅
   refine ip (by rw[Ç,C40];simp only[most];omega) (l01 (I32 j) (λy hy=>?_) ?_)
   ·obtain⟨l,hl,rfl⟩:=Ø.mp hy;have:=O30 hl;refine(a00 (A01 (a:=l.map c70) (b:=[c70 j]) (by rw[Ç];show _ + 1<=_;omega)) ?_ :)
    exact⟨rfl,rfl⟩
   ·rw[K01];refine(a00 (add_l (a:=(c30 j).map g80) (b:=((c30 j).map (·++[j])).map g80) (by rw[Ç,Ç,Ç,C40];omega)) ?_ :)
    refine⟨rfl,j + 1,r',some (.d (c70 j)),by omega,rfl,?_⟩
    exact congrArg (λl=>[some (S.d (.tup [.int m,.tup ts])),some (.fr l),some (.d (c70 j))]) À5.symm
 ·rintro ρ z1 ⟨rfl,j,r',o2,hj,e,rfl⟩;cases r' with
  |zero =>
   have hj:j=ts.length:=hj;subst hj;refine(a00 (a61 h8) ?_ :);exact sd rfl
  |succ r'=>rw[Ï9] at e;cases e
theorem u60(k:Nat){m:Int}{ts:List D}(h8:ts.length<=8)(z:Z):b60 T (k + 3) r00 [.d (.tup [.int m,.tup ts])] z=some (.ok (.fr ((g40 ts.length).map g80)) z):=g51 rfl k h8 z
def z00:D->List Nat
 |.tup l=>l.map λx=>match x with | .int i=>i.toNat | _=>0
 |_=>[]
theorem g00(l:List Nat):z00 (g80 l)=l:=by
 show(l.map c70).map _=l;rw[ô];exact map_id l
theorem O50(h:k<=8)(hl:lot∈g40 k):∀ n∈lot,n < k:=u50 ((e10 h).mem_iff.mp hl)
theorem n60(h:k<=8):(g40 k).length<=256:=by rw[(e10 h).length_eq,C40];exact z91 h
section
variable {m:Int}{ps cs:List (Int × Int)}{pl:List Nat}
abbrev d30(m:Int)(ps:List (Int × Int))(pl:List Nat):List (List Nat):=(g40 ps.length).filter (b80 ps m.toNat pl)
theorem A20(k:Nat)(g:c60 m ps)(hp:f20 m pl)(z:Z):b60 T (k + 9) t50 [.d (C10 m ps),.d (.tup (pl.map c70))] z=some (.ok (.fr ((d30 m ps pl).map g80)) z):=by
 have h8:=g.len;have h6:=hp.len g.m6;refine W.ok (o30 (ps:=2) (ns:=2) (b:=u10) rfl rfl (-0) (Wo (k80 k z g.web) (Wo (j80 (k + 2) (t:=.tup (ps.map pr)) z hp.pls (decide_eq_true (by rw[Ç];omega))) (Wo (u60 (k + 5) (m:=m) (ts:=ps.map pr) (by rw[Ç];exact h8) z) ?_))))
 rw[Ç];refine ip (by rw[Ç];exact q00 (Ù (n60 h8) (-0))) (s62 (λx=>b80 ps m.toNat pl (z00 x)) id (λx hx=>?_) ?_)
 ·obtain⟨l,hl,rfl⟩:=Ø.mp hx;refine Wo (x20 (k + 4) g hp (Row.t l) (O50 h8 hl) z) ⟨?_,rfl,λ_=>⟨rfl,rfl⟩⟩;rw[g00]
 ·refine sd ?_;rw[map_id,filter_map];have:(g40 ps.length).filter ((λx=>b80 ps m.toNat pl (z00 x)) ∘ g80)=d30 m ps pl:=Õ9 λl _=>by show b80 ps m.toNat pl (z00 (g80 l))=_;rw[g00]
  rw[this]
theorem z10(k:Nat)(hl:cs.length<=8)(ha:∀ c∈cs,IsC c)(lot:List Nat)(z:Z):b60 T (k + 3) w90 [.d (.tup (cs.map pr)),.d (g80 lot)] z=some (.ok (.d (.int (amt (cf cs) cs.length lot))) z):=by
 refine W.ok (o30 (ps:=2) (ns:=6) (b:=F30) rfl rfl (-0) ?_)
 refine M80 (λxs ρ z1=>z1=z/\∃ (j:Nat) (o3 o4 o5:Option S),j<=cs.length/\xs=v90 ((cs.drop j).map pr) j/\ρ=[some (.d (.tup (cs.map pr))),some (.d (g80 lot)),some (.d (.int (amt (cf cs) j lot))),o3,o4,o5]) _ ⟨rfl,0,none,none,none,Å4 _,rfl,(itE (by show(k20 _&&true)=true;rw[C00];rfl)).trans rfl⟩ ?_ ?_
 ·rintro x r ρ z1 ⟨rfl,j,o3,o4,o5,hj,e,rfl⟩;by_cases h:j < cs.length
  ·rw[Ä8 h] at e;cases e;have ec:cs[j]=cf cs j:=by rw[cf,Í,Ò h];rfl
   rw[ec];obtain⟨a1,a2⟩:=F90 (lot:=lot) ha (j:=j) ∅
   refine(a00 (a51 (n:=j) (l:=lot)) ?_ :);have fin:∀ w:Int,0<=w->w<=1000->w=(if j∈lot then(cf cs j).1 else(cf cs j).2 - (cf cs j).1)->x90 .mul (.int (amt (cf cs) j lot)) (.int w)=some (.d (.int (amt (cf cs) (j + 1) lot))):=λw w0 w1 e=>by
    rw[l51 a1 (u40 (n:=10 * j) ∅ a2) w0 (x10 ∅),k90,e]
   obtain⟨w1,w2⟩:=(a41 ha h).w (j∈lot);refine ib (b:=decide (j∈lot)) (λhm=>?_) λhm=>?_
   ·rw[decide_eq_true_eq] at hm;rw[if_pos hm] at w1 w2;refine(a00 (fin _ w1 w2 (by rw[if_pos hm])) ?_ :)
    exact⟨rfl,j + 1,_,_,_,h,rfl,rfl⟩
   ·rw[decide_eq_false_iff_not] at hm;rw[if_neg hm] at w1 w2;refine(a00 (fin _ w1 w2 (by rw[if_neg hm])) ?_ :)
    exact⟨rfl,j + 1,_,_,_,h,rfl,rfl⟩
  ·rw[Ü8 ∅] at e;cases e
 ·rintro ρ z1 ⟨rfl,j,o3,o4,o5,hj,e,rfl⟩;by_cases h:j < cs.length
  ·rw[Ä8 h] at e;cases e
  ·have hj:j=cs.length:=by omega
   subst hj;exact sd rfl
theorem l50(k:Nat)(hl:cs.length<=8)(ha:∀ c∈cs,IsC c)(z:Z):b60 T (k + 3) i20 [.d (.tup (cs.map pr))] z=some (.ok (.d (.int (b30 cs))) z):=by
 obtain⟨b0,b1⟩:=l40 ha;refine W.ok (o30 (ps:=1) (ns:=3) (b:=n10) rfl rfl (-0) ?_)
 refine M80 (λxs ρ z2=>z2=z/\∃ (rest:List (Int × Int)) (b:Int) (o:Option S),xs=rest.map pr/\(∀ c∈rest,IsC c)/\0 < b/\b * b30 rest=b30 cs/\ρ=[some (.d (.tup (cs.map pr))),some (.d (.int b)),o]) _ ⟨rfl,cs,1,none,rfl,ha,by decide,Int.one_mul _,(itE (by show(k20 _&&true)=true;rw[C00];rfl)).trans rfl⟩ ?_ ?_
 ·rintro x r ρ z2 ⟨rfl,rest,b,o,e,hr,hb,ht,rfl⟩;cases rest with
  |nil=>cases e
  |cons c rest =>
   cases e;have hc':=hr c É;have hr':∀ c∈rest,IsC c:=λd hd=>hr d (Å _ hd);have ht':b * (c.2 * b30 rest)=b30 cs:=ht;have p0:=(l40 hr').1;have hle:b<=b30 cs:=by
    rw[← ht'];have h1:0 < c.2 * b30 rest:=Æ0 (by have:=hc'.1;omega) p0
    have:b * 1<=b * (c.2 * b30 rest):=ë ∅ ∅
    omega
   refine(a00 (l51 (i:=b) (j:=c.2) ∅ (u40 (n:=10 * cs.length) ∅ (Å9 hle b1)) (by have:=hc'.1;omega) (x10 (by have:=hc'.2.1;omega))) ?_ :)
   exact⟨rfl,rest,b * c.2,_,rfl,hr',Æ0 hb (by have:=hc'.1;omega),by rw[Ð7];exact ht',rfl⟩
 ·rintro ρ z2 ⟨rfl,rest,b,o,e,hr,hb,ht,rfl⟩;cases rest with
  |cons _ _=>cases e
  |nil =>
   have ht:b * 1=b30 cs:=ht;rw[mul_one] at ht;subst ht;exact sd rfl
theorem sum_ints(f:List Nat->Int):∀ ls:List (List Nat),G81 ((ls.map g80).map λx=>.int (f (z00 x)))=some (e30 ls f)
 |[]=>rfl
 |l::r=>by
  show(G81 ((r.map g80).map λx=>.int (f (z00 x)))).map (f (z00 (g80 l)) + ·)=_;rw[sum_ints f r,g00];rfl
theorem O60(k:Nat)(hl:cs.length<=8)(ha:∀ c∈cs,IsC c)(hls:ls.length<=256)(z:Z):b60 T (k + 5) p30 [.d (.tup (cs.map pr)),.d (.lst (ls.map g80))] z=some (.ok (.d (pr (d00 (e30 ls (amt (cf cs) cs.length)) (b30 cs)))) z):=by
 obtain⟨b0,b1⟩:=l40 ha;refine W.ok (o30 (ps:=2) (ns:=2) (b:=p80) rfl rfl (-0) ?_)
 refine ip (by rw[Ç];exact q00 ∅) (l01 (λx=>.int (amt (cf cs) cs.length (z00 x))) (λx hx=>?_) ?_)
 ·obtain⟨l,_,rfl⟩:=Ø.mp hx;refine Wo (z10 (k + 1) hl ha l z) ⟨?_,rfl⟩;rw[g00]
 ·refine(a00 (o:=bfD .sum [.lst _]) (a:=.d (.int (e30 ls (amt (cf cs) cs.length)))) (by show(((c51 (.lst _)).bind G81).map _)=_;show(G81 _).map _=_;rw[sum_ints];rfl) ?_ :)
  exact Wo (l50 (k + 1) hl ha z) (Wo (F60 k _ _ z b0 (u40 (n:=10 * cs.length) ∅ b1)) (sd rfl))
theorem j90(h:a.Perm b):e30 a f=e30 b f:=by
 unfold e30;exact(h.map f).foldr_eq' (λx _ y _ z=>by omega) 0
theorem x50(g:List Nat->Bool)(f:List Nat->Int):∀ a:List (List Nat),e30 (a.filter g) f=e30 a λl=>if g l then f l else 0
 |[]=>rfl
 |x::r=>by
  have ih:=x50 g f r;show _=(if g x=true then f x else 0) + e30 r _;rw[List.filter_cons,← ih];cases g x with
  |true=>rfl|false=>show _=0 + _;rw[Ö5];rfl
theorem O70(k:Nat)(g:c60 m ps)(hc:cs.length=ps.length)(ha:∀ c∈cs,IsC c)(z:Z):b60 T (k + 5) p30 [.d (.tup (cs.map pr)),.d (.lst ((d30 m ps pl).map g80))] z=some (.ok (.d (pr (a60 m ps cs pl))) z):=by
 have h8:=g.len;rw[O60 k ∅ ha (Ù (Ç9 _ _) (n60 h8)) z,x50,j90 (e10 h8),hc]
 rfl
theorem r40(g:c60 m ps)(hp:f20 m pl)(hc:cs.length=ps.length)(ha:∀ c∈cs,IsC c):Bd 80 (a60 m ps cs pl):=by
 have h8:=g.len;have hcf:∀ n∈Û ps.length,IsC (cf cs n):=λn hn=>a41 ha (by rw[hc];exact ç.mp hn)
 obtain⟨b0,b1⟩:=G00 hcf;obtain⟨t0,t1⟩:=V50 (g:=b80 ps m.toNat pl) _ [] hcf;rw[x30 g hp hc];refine(Fr.low b0 t0).bd b0 t1 (Å9 b1 ?_);rw[ì]
 exact_mod_cast Ç8 (n:=2) (-0) (show 10 * ps.length<=80 by omega)
theorem r50(k:Nat)(g:c60 m ps)(hp:f20 m pl)(hc:cs.length=ps.length)(ha:∀ c∈cs,IsC c)(z:Z):b60 T (k + 11) t60 [.d (C10 m ps),.d (.tup (cs.map pr)),.d (.tup (pl.map c70))] z=some (.ok (.d (pr (a60 m ps cs pl))) z):=by
 have h6:=hp.len g.m6;exact W.ok (o30 (ps:=3) (ns:=3) (b:=Z70) rfl rfl (-0) (Wo (h50 k (m:=m) (ts:=ps.map pr) g.web z (z31 (by rw[Ç];exact hc) ha)) (Wo (j80 (k + 4) (t:=.tup (ps.map pr)) z hp.pls (decide_eq_true (by rw[Ç];omega))) (Wo (A20 (k + 1) g hp z) (Wo (O70 (k + 5) g hc ha z) (sd rfl))))))
end
def A31(c:Nat->Int × Int):Nat->Int
 |0=>1|j + 1=>A31 c j * (c j).2
theorem A41{j:Nat}{lot:List Nat}(h:lot∈c30 j):j ∉ lot:=λq=>ÿ j (u50 h j q)
theorem r60{f g:List Nat->Int}:∀ {a:List (List Nat)},(∀ x∈a,f x=g x)->e30 a f=e30 a g
 |[],_=>rfl
 |x::r,h=>by
  show f x + e30 r f=g x + e30 r g;rw[h x É,r60 λy hy=>h y (Å _ hy)]
theorem g61(c:Nat->Int × Int):∀ j:Nat,e30 (c30 j) (amt c j)=A31 c j
 |0=>rfl
 |j + 1=>by
  show e30 (c30 j++(c30 j).map (·++[j])) (amt c (j + 1))=A31 c j * (c j).2;rw[O10,C30,← g61 c j];rw[C20 (f:=amt c j) (k:=(c j).2 - (c j).1) λx hx=>by rw[k90,if_neg (A41 hx),Ã1]]
  rw[C20 (f:=amt c j) (k:=(c j).1) (h:=λx=>amt c (j + 1) (x++[j])) λx hx=>by rw[k90,if_pos (by simp),z71 (Ì j),Ã1]]
  rw[← add_mul,Ã1]
  congr 1
  omega
def e70(j:Nat)(lot:List Nat):List Nat:=(Û j).filter λn=>!lot.contains n
theorem K11{j:Nat}{lot:List Nat}:e70 j (lot++[j])=e70 j lot:=by
 unfold e70;refine Õ9 λn hn=>?_;have hn:=ç.mp hn;have:(lot++[j]).contains n=lot.contains n:=by
  rw[Ë9,Ê9,Ê9,mem_append];exact⟨λh=>h.elim id λh=>absurd (ñ.mp h) ∅,.inl⟩
 rw[this]
theorem K21{j:Nat}{lot:List Nat}(h:j ∉ lot):e70 (j + 1) lot=e70 j lot++[j]:=by
 unfold e70;rw[Î4,List.filter_append]
 congr 1
 have:lot.contains j=false:=by rw[Bool.eq_false_iff];exact λq=>h (List.contains_iff_mem.mp q)
 simp[h]
theorem a82{j:Nat}{lot:List Nat}:e70 (j + 1) (lot++[j])=e70 j lot:=by
 rw[← K11 (j:=j) (lot:=lot)];unfold e70;rw[Î4,List.filter_append];simp
theorem G10:∀ j:Nat,((c30 j).map (e70 j)).Perm (c30 j)
 |0=>.refl _
 |j + 1=>by
  show((c30 j++(c30 j).map (·++[j])).map (e70 (j + 1))).Perm (c30 j++(c30 j).map (·++[j]));rw[À5,ô];have e1:(c30 j).map (e70 (j + 1))=((c30 j).map (e70 j)).map (·++[j]):=by
   rw[ô];exact Ä0 λx hx=>K21 (A41 hx)
  have e2:(c30 j).map (e70 (j + 1) ∘ λx=>x++[j])=(c30 j).map (e70 j):=Ä0 λx _=>a82;rw[e1,e2];exact List.perm_append_comm.trans (((G10 j)).append ((G10 j).map _))
theorem K31(j:Nat)(f:List Nat->Int):e30 (c30 j) (λl=>f (e70 j l))=e30 (c30 j) f:=by
 rw[← C30 (f:=f)];exact j90 (G10 j)
def tl:Sm->Sm
 |.seq _ r=>r|s=>s
structure Bs(n:Nat)(c:Int × Int):Prop where
 t:c.1.natAbs<=2 ^ n
 b0:0 < c.2
 b:c.2.natAbs<=2 ^ n
theorem O80(h:n<=3999)(hi:i<=2 ^ n):i < H70:=È9 hi (Nat.pow_lt_pow_right (-0) ∅)
theorem a71(h:n<=3999)(hi:i.natAbs<=2 ^ n)(hj:j.natAbs<=2 ^ n):x90 .mul (.int i) (.int j)=some (.d (.int (i * j))):=by
 show(if i.natAbs < H70/\j.natAbs < H70 then some (S.d (.int (i * j))) else none)=_;rw[if_pos ⟨O80 h hi,O80 h hj⟩]
theorem G20{n m:Nat}{i j:Int}(hi:i.natAbs<=2 ^ n)(hj:j.natAbs<=2 ^ m):(i * j).natAbs<=2 ^ (n + m):=by
 rw[natAbs_mul,Nat.pow_add];exact Nat.mul_le_mul hi hj
theorem a81(h:n<=3999)(hi:i.natAbs<=2 ^ n):big i:=by
 have:=O80 h hi;show i < 2 ^ 4000;have e:((H70:Nat):Int)=2 ^ 4000:=by unfold H70;exact Ë6 2 4000
 rw[← e];omega
theorem Bd.s(h:Bd n c):Bs n c:=by
 have e:((2 ^ n:Nat):Int)=2 ^ n:=Ë6 2 n;have h1:=h.t0;have h2:=h.tb;have h3:=h.b0;have h4:=h.bb;rw[← e] at h4;exact⟨by omega,h3,by omega⟩
theorem IsC.s(h:IsC c):Bs 10 c:=by
 obtain⟨h1,h2,h3,h4,_⟩:=h;exact⟨by show _<=1024;omega,by omega,by show _<=1024;omega⟩
theorem A51(h0:0 < b):(d00 t b).1.natAbs<=t.natAbs/\(d00 t b).2.natAbs<=b.natAbs:=by
 obtain⟨e1,e2⟩:=N60 (t:=t) h0;have g0:=q10 (t:=t) h0;generalize d00 t b=v at *
 generalize hg:gcd t b=g at *
 have g1:1<=g:=by omega
 constructor
 ·rw[e1,natAbs_mul,Int.natAbs_natCast];exact Ý1 _ g1
 ·rw[e2,natAbs_mul,Int.natAbs_natCast];exact Ý1 _ g1
theorem A61{n K:Nat}(h:n < K):d10 (.int n) K=true:=by
 show(decide (0<=(n:Int))&&decide ((n:Int) < (K:Int)))=true;rw[decide_eq_true ∅,decide_eq_true ∅];rfl
section
variable {m:Int}{ps cs:List (Int × Int)}{pl:List Nat}{c:Int × Int}
theorem g71(ha:∀ c∈cs,IsC c)(hc:IsC c):∀ d∈cs.set n c,IsC d:=λd hd=>by
 rcases List.mem_or_eq_of_mem_set hd with h | h
 ·exact ha d h
 ·rw[h];exact hc
theorem a92(h:n < cs.length):cutD (cs.map pr) none (some (n:Int))++[pr c]++cutD (cs.map pr) (some ((n:Int) + 1)) none=(cs.set n c).map pr:=by
 rw[V00 _ ∅,Â3,show((n:Int) + 1)=((n + 1:Nat):Int) by omega,r20,Õ3,if_pos h,À5,Â0,Æ1,map_take,List.map_drop];rfl
theorem q72(hl:cs.length<=8)(h:n < cs.length):x90 .add (.tup (cutD (cs.map pr) none (some (n:Int)))) (.tup [pr c])=some (.d (.tup (cutD (cs.map pr) none (some (n:Int))++[pr c])))/\x90 .add (.tup (cutD (cs.map pr) none (some (n:Int))++[pr c])) (.tup (cutD (cs.map pr) (some ((n:Int) + 1)) none))=some (.d (.tup ((cs.set n c).map pr))):=by
 have e1:(cutD (cs.map pr) none (some (n:Int))).length<=8:=by rw[V00 _ ∅,Á7,Ç];omega
 have e2:(cutD (cs.map pr) (some ((n:Int) + 1)) none).length<=8:=by rw[show((n:Int) + 1)=((n + 1:Nat):Int) by omega,r20,Ç3,Ç];omega
 refine⟨A01 (by show _ + 1<=_;omega),?_⟩
 rw[A01 (by rw[s72];omega),a92 h]
end
structure Rt(v:Int × Int)(t b:Int):Prop where
 b0:0 < v.2
 one:gcd v.1 v.2=1
 eq:v.1 * b=t * v.2
theorem Rt.low{t b:Int}(hb:0 < b):Rt (d00 t b) t b:=⟨F70 hb,a21 hb,by rw[V60 hb,Ã1]⟩
theorem Rt.conv{v:Int × Int}{t b t' b':Int}(h:Rt v t b)(hb:0 < b)(e:t * b'=t' * b):Rt v t' b':=by
 refine⟨h.b0,h.one,Î2 (a:=b) ∅ ?_⟩
 have:=h.eq
 calc v.1 * b' * b=(v.1 * b) * b':=by grind
  _=(t * b') * v.2:=by rw[this];grind
  _=t' * v.2 * b:=by rw[e];grind
theorem Rt.eqv{v w:Int × Int}{t b:Int}(hv:Rt v t b)(hw:Rt w t b)(hb:0 < b):v=w:=by
 have e:v.1 * w.2=w.1 * v.2:=by
  have h1:=hv.eq;have h2:=hw.eq;refine Î2 (a:=b) ∅ ?_
  calc v.1 * w.2 * b=(v.1 * b) * w.2:=by grind
   _=(t * w.2) * v.2:=by rw[h1];grind
   _=w.1 * v.2 * b:=by rw[← h2];grind
 obtain⟨a,b'⟩:=l61 hv.b0 hw.b0 hv.one hw.one e;exact Prod.ext a b'
theorem Rt.add{v w:Int × Int}{t b t' b':Int}(hv:Rt v t b)(hw:Rt w t' b'):Rt (d00 (v.1 * w.2 + w.1 * v.2) (v.2 * w.2)) (t * b' + t' * b) (b * b'):=by
 have y:=Æ0 hv.b0 hw.b0;refine(Rt.low y).conv y ?_;have h1:=hv.eq;have h2:=hw.eq
 calc (v.1 * w.2 + w.1 * v.2) * (b * b')=(v.1 * b) * (w.2 * b') + (w.1 * b') * (v.2 * b):=by grind
  _=(t * b' + t' * b) * (v.2 * w.2):=by rw[h1,h2];grind
theorem Rt.mul{v w:Int × Int}{t b t' b':Int}(hv:Rt v t b)(hw:Rt w t' b'):Rt (d00 (v.1 * w.1) (v.2 * w.2)) (t * t') (b * b'):=by
 have y:=Æ0 hv.b0 hw.b0;refine(Rt.low y).conv y ?_;have h1:=hv.eq;have h2:=hw.eq
 calc v.1 * w.1 * (b * b')=(v.1 * b) * (w.1 * b'):=by grind
  _=t * t' * (v.2 * w.2):=by rw[h1,h2];grind
theorem IsC.rt{c:Int × Int}(h:IsC c):Rt c c.1 c.2:=⟨by have:=h.1;omega,h.2.2.2.2,rfl⟩
section
variable {g:List Nat->Bool}{c c':Nat->Int × Int}
theorem x60:∀ (ns held:List Nat),(∀ n∈ns,c n=c' n)->tot g c ns held=tot g c' ns held
 |[],_,_=>rfl
 |n::r,held,h=>by
  unfold tot;rw[h n É,x60 r held λk hk=>h k (Å _ hk),x60 r (n::held) λk hk=>h k (Å _ hk)]
theorem m01{ns:List Nat}(h:∀ n∈ns,c n=c' n):s60 c ns=s60 c' ns:=by
 unfold s60;rw[Ä0 λn hn=>by rw[h n hn]]
theorem O90{N:Nat}(mono:∀ a b:List Nat,(∀ n∈b,n < N)->(∀ n∈a,n∈b)->g a=true->g b=true):∀ (ns a b:List Nat),(∀ n∈ns,n < N/\IsC (c n))->(∀ n∈b,n < N)->(∀ n∈a,n∈b)->tot g c ns a<=tot g c ns b
 |[],a,b,_,hb,h=>by
  unfold tot;cases e:g a with
  |false=>cases g b <;> decide
  |true=>rw[mono a b hb h e];exact Ë4 _
 |n::r,a,b,hn,hb,h=>by
  obtain⟨n1,c1,c2,c3,c4,_⟩:=hn n É;have hr:=λk hk=>hn k (Å _ hk);have i1:=O90 mono r a b hr hb h;have i2:=O90 mono r (n::a) (n::b) hr (λk hk=>by rcases ß.mp hk with rfl | hk;exact n1;exact hb k hk) λk hk=>by rcases ß.mp hk with rfl | hk;exact É;exact Å _ (h k hk)
  unfold tot;have k1:=ë i2 c3;have k2:=ë i1 (show 0<=(c n).2 - (c n).1 by omega)
  omega
end
section
variable {m:Int}{ps cs:List (Int × Int)}{pl:List Nat}
theorem set_own{n:Nat}(h:n < cs.length):cs.set n (cf cs n)=cs:=by
 rw[cf,Í,Ò h];exact List.set_getElem_self h
end
theorem E12:IsC (1,1):=⟨by decide,by decide,by decide,by decide,by decide⟩
theorem E22:IsC (0,1):=⟨by decide,by decide,by decide,by decide,by decide⟩
theorem Bs.up{n m:Nat}{c:Int × Int}(h:Bs n c)(hm:n<=m):Bs m c :=
 have e:=Ç8 (n:=2) (-0) hm
 ⟨Ù h.t e,h.b0,Ù h.b e⟩
theorem Bs.low{n:Nat}{t b:Int}(h0:0 < b)(ht:t.natAbs<=2 ^ n)(hb:b.natAbs<=2 ^ n):Bs n (d00 t b) :=
 ⟨Ù (A51 h0).1 ht,F70 h0,Ù (A51 h0).2 hb⟩
theorem Bs.mul{n:Nat}{c d:Int × Int}(hc:Bs n c)(hd:Bs n d):Bs (n + n) (d00 (c.1 * d.1) (c.2 * d.2)):=.low (Æ0 hc.b0 hd.b0) (G20 hc.t hd.t) (G20 hc.b hd.b)
theorem E32(a:Int × Int):(!((a.1 == a.1)&&((a.2 == a.2)&&true)))=false:=by rw[beq_self_eq_true,beq_self_eq_true];rfl
def u70:List Int->Int
 |[]=>0|t::r=>t + u70 r
theorem g81:∀ {l:List Int},(∀ t∈l,0<=t)->0<=u70 l
 |[],_=>Ë4 0|t::r,h=>Int.add_nonneg (h t É) (g81 λu hu=>h u (Å _ hu))
theorem K41{B:Int}(hB:0 < B):d00 0 B=(0,1):=by
 unfold d00;rw[Int.gcd_zero_left];have e:((B.natAbs:Nat):Int)=B:=by omega
 rw[e,Int.zero_ediv,Int.ediv_self ∅]
theorem K51{s t B:Int}(hB:0 < B):d00 ((d00 s B).1 * (d00 t B).2 + (d00 t B).1 * (d00 s B).2) ((d00 s B).2 * (d00 t B).2)=d00 (s + t) B:=by
 have h:=(Rt.low (t:=s) hB).add (Rt.low (t:=t) hB);exact(h.conv (Æ0 hB hB) (by rw[← add_mul,Ð7])).eqv (Rt.low hB) hB
theorem V80(B:Int):∀ ts:List Int,k20 (ts.map λt=>pr (d00 t B))=true
 |[]=>rfl|_::r=>V80 B r
theorem l00(k:Nat){n:Nat}{B:Int}{ts:List Int}(hB:0 < B)(hn:n + n<=3999)(hBn:B.natAbs<=2 ^ n)(h0:∀ t∈ts,0<=t)(hs:(u70 ts).natAbs<=2 ^ n)(z:Z) :
  b60 T (k + 4) c50 [.d (.lst (ts.map λt=>pr (d00 t B)))] z=some (.ok (.d (pr (d00 (u70 ts) B))) z):=by
 have h1:n<=3999:=by omega
 refine W.ok (o30 (ps:=1) (ns:=4) (b:=p90) rfl rfl (-0) ?_)
 refine M80 (λxs ρ z2=>z2=z/\∃ (rest:List Int) (s:Int) (v:Int × Int) (o:Option S),xs=(rest.map λt=>pr (d00 t B))/\(∀ t∈rest,0<=t)/\0<=s/\s + u70 rest=u70 ts/\v=d00 s B/\ρ=[some (.d (.lst (ts.map λt=>pr (d00 t B)))),some (.d (.int v.1)),some (.d (.int v.2)),o]) _ ⟨rfl,ts,0,(0,1),none,rfl,h0,Ë4 0,Ö5 _,(K41 hB).symm,(itE (by show(k20 _&&true)=true;rw[V80];rfl)).trans rfl⟩ ?_ ?_
 ·rintro x r ρ z2 ⟨rfl,rest,s,v,o,e,hr,s0,ht,hv,rfl⟩;cases rest with
  |nil=>cases e
  |cons t rest =>
   cases e;have t0:=hr t É;have hr':∀ t∈rest,0<=t:=λu hu=>hr u (Å _ hu);have p0:=g81 hr';have ht':s + (t + u70 rest)=u70 ts:=ht;have bv:Bs n v:=by rw[hv];exact Bs.low hB ∅ hBn
   have bw:Bs n (d00 t B):=Bs.low hB ∅ hBn
   refine(a00 (a71 h1 bv.t bw.b) ?_ :);refine(a00 (a71 h1 bw.t bv.b) ?_ :);refine(a00 (a71 h1 bv.b bw.b) ?_ :);refine Wo (i30 k _ _ z2 (Æ0 bv.b0 bw.b0) (a81 hn (G20 bv.b bw.b))) ?_;refine⟨rfl,rest,s + t,d00 (v.1 * (d00 t B).2 + (d00 t B).1 * v.2) (v.2 * (d00 t B).2),_,rfl,hr',Int.add_nonneg s0 t0,by omega,by rw[hv];exact K51 hB,rfl⟩
 ·rintro ρ z2 ⟨rfl,rest,s,v,o,e,hr,s0,ht,hv,rfl⟩;cases rest with
  |cons _ _=>cases e
  |nil =>
   have ht:s + 0=u70 ts:=ht;rw[Ó5] at ht;subst hv;rw[← ht];exact sd rfl
section
variable {m:Int}{ps cs:List (Int × Int)}{pl:List Nat}
theorem A71{j n:Nat}{lot:List Nat}(h:n∈e70 j lot):n < j:=ç.mp (È4.mp h).1
theorem P00(k:Nat)(h8:ps.length<=8)(lot:List Nat)(z:Z):b60 T (k + 3) z70 [.d (C10 m ps),.d (g80 lot)] z=some (.ok (.d (g80 (e70 ps.length lot))) z):=by
 refine W.ok (o30 (ps:=2) (ns:=2) (b:=p60) rfl rfl (-0) ?_)
 refine(a00 (o:=itD .rng1 [.int ((ps.map pr).length:Nat)]) (a31 (n:=(ps.map pr).length) (by rw[Ç];omega)) ?_ :)
 rw[Ç];refine ip (by rw[Ç,List.length_range'];exact q00 ∅) (s62 (λx=>match x with | .int i=>!lot.contains i.toNat | _=>false) id (λx hx=>?_) ?_)
 ·obtain⟨n,hn,rfl⟩:=Ø.mp hx;refine(a00 (o:=(C41 (c70 n) (lot.map c70)).map (!·)) (a:=!lot.contains n) (by rw[a51,Ì4];rfl) ?_ :)
  exact⟨rfl,rfl,λ_=>⟨rfl,rfl⟩⟩
 ·rw[map_id,filter_map];refine sd ?_;rw[Ç,← Ì2];rfl
theorem A81(k:Nat)(g:c60 m ps)(hp:f20 m pl)(lot:List Nat)(z:Z):b60 T (k + 5) f51 [.d (C10 m ps),.d (g80 lot),.d (.tup (pl.map c70))] z=some (.ok (.d (.bl (!b80 ps m.toNat pl (e70 ps.length lot)))) z):=by
 refine W.ok (o30 (ps:=3) (ns:=3) (b:=N30) rfl rfl (-0) (Wo (P00 (k + 1) g.len lot z) (Wo (x20 k g hp (Row.t _) (λn hn=>A71 hn) z) ?_)))
 exact sd rfl
abbrev P10(m:Int)(ps:List (Int × Int))(pl:List Nat):List (List Nat):=(g40 ps.length).filter λl=>!b80 ps m.toNat pl (e70 ps.length l)
theorem b02(k:Nat)(g:c60 m ps)(hp:f20 m pl)(z:Z):b60 T (k + 9) P81 [.d (C10 m ps),.d (.tup (pl.map c70))] z=some (.ok (.fr ((P10 m ps pl).map g80)) z):=by
 have h8:=g.len;have h6:=hp.len g.m6;refine W.ok (o30 (ps:=2) (ns:=2) (b:=x91) rfl rfl (-0) (Wo (k80 k z g.web) (Wo (j80 (k + 2) (t:=.tup (ps.map pr)) z hp.pls (decide_eq_true (by rw[Ç];omega))) (Wo (u60 (k + 5) (m:=m) (ts:=ps.map pr) (by rw[Ç];exact h8) z) ?_))))
 rw[Ç];refine ip (by rw[Ç];exact q00 (Ù (n60 h8) (-0))) (s62 (λx=>!b80 ps m.toNat pl (e70 ps.length (z00 x))) id (λx hx=>?_) ?_)
 ·obtain⟨l,hl,rfl⟩:=Ø.mp hx;refine Wo (A81 (k + 3) g hp l z) ⟨?_,rfl,λ_=>⟨rfl,rfl⟩⟩;rw[g00]
 ·refine sd ?_;rw[map_id,filter_map];have:(g40 ps.length).filter ((λx=>!b80 ps m.toNat pl (e70 ps.length (z00 x))) ∘ g80)=P10 m ps pl:=Õ9 λl _=>by show(!b80 ps m.toNat pl (e70 ps.length (z00 (g80 l))))=_;rw[g00]
  rw[this]
theorem b12(g:c60 m ps)(f:List Nat->Int):e30 (P10 m ps pl) (λl=>f (e70 ps.length l))=e30 (c30 ps.length) λl=>if b80 ps m.toNat pl l then 0 else f l:=by
 unfold P10;rw[x50,j90 (e10 g.len),← K31 ps.length λl=>if b80 ps m.toNat pl l then 0 else f l];refine r60 λx _=>?_;cases b80 ps m.toNat pl (e70 ps.length x) <;> rfl
end
theorem q20:∀ {j:Nat}{lot:List Nat},lot∈c30 j->lot.Pairwise (· < ·)
 |0,lot,h=>by
  have:lot=[]:=by simpa [c30] using h
  subst this;exact .nil
 |j + 1,lot,h=>by
  rcases Á0.mp (show lot∈c30 j++(c30 j).map (·++[j]) from h) with h | h
  ·exact q20 h
  ·obtain⟨x,hx,rfl⟩:=Ø.mp h;rw[List.pairwise_append];refine⟨q20 hx,Ü5 _ _,λa ha b hb=>?_⟩;rw[ñ] at hb;subst hb;exact u50 hx a ha
theorem K61:∀ {K:Nat}{lot:List Nat},lot.Pairwise (· < ·)->(∀ n∈lot,n < K)->lot.length<=K:=λ{K lot} h1 h2=>by
 have:=(List.Nodup.length_le_of_subset (h1.imp λh=>ê h) (λn hn=>ç.mpr (h2 n hn):lot ⊆ Û K))
 rwa [ì] at this
theorem g91:∀ ns:List Int,y20 (ns.map D.int)=some ns
 |[]=>rfl
 |n::r=>by
  show(y20 (r.map D.int)).map (n::·)=_;rw[g91 r];rfl
theorem K71{ns:List Int}(h:ns.length < 1000):U61 [.lst (ns.map D.int)]=some (.fr (j91 ns)):=by
 show(match y20 (ns.map D.int) with | some ns=>if ns.length < 1000 then some (S.fr (j91 ns)) else none | none=>none)=_
 rw[g91];exact if_pos h
section
variable {m:Int}{ps cs:List (Int × Int)}{pl lot:List Nat}
theorem A30(k:Nat)(h8:ps.length<=8)(h1:lot.Pairwise (· < ·))(h2:∀ n∈lot,n < ps.length)(z:Z):b60 T (k + 7) t40 [.d (C10 m ps),.d (g80 lot)] z=some (.ok (.d .non) z):=by
 have hl:=K61 h1 h2;have hb:(lot.map c70).all (λx=>d10 x ((ps.map pr).length:Nat))=true:=by
  rw[Â6];intro x hx;obtain⟨n,hn,rfl⟩:=Ø.mp hx;exact A61 (by rw[Ç];exact h2 n hn)
 refine W.ok (o30 (ps:=2) (ns:=2) (b:=t80) rfl rfl (-0) ?_)
 have e:b60 T (k + 6) f41 [.d (C10 m ps),.d (g80 lot)] z=some (.ok (.d (.bl true)) z):=by
  refine W.ok (o30 (ps:=2) (ns:=2) (b:=N20) rfl rfl (-0) (Wo (A10 k ((ps.map pr).length:Nat) (x:=g80 lot) (decide_eq_true (by rw[Ç];omega)) z) (sd ?_)))
  show S.d (.bl ((lot.map c70).all (λx=>d10 x ((ps.map pr).length:Nat))&&m71 (lot.map c70)))=_;rw[hb,z41 h1];rfl
 exact Wo e (sd rfl)
theorem n70(k:Nat)(g:c60 m ps)(hc:cs.length=ps.length)(ha:∀ c∈cs,IsC c)(h1:lot.Pairwise (· < ·))(h2:∀ n∈lot,n < ps.length)(z:Z):b60 T (k + 11) k50 [.d (C10 m ps),.d (.tup (cs.map pr)),.d (g80 lot)] z=some (.ok (.d (pr (d00 (amt (cf cs) ps.length lot) (b30 cs)))) z):=by
 have h8:=g.len;obtain⟨b0,b1⟩:=l40 ha;refine W.ok (o30 (ps:=3) (ns:=3) (b:=p70) rfl rfl (-0) (Wo (h50 k (m:=m) (ts:=ps.map pr) g.web z (z31 (by rw[Ç];exact hc) ha)) (Wo (A30 (k + 3) h8 h1 h2 z) (Wo (z10 (k + 7) ∅ ha lot z) (Wo (l50 (k + 7) ∅ ha z) (Wo (F60 (k + 6) _ _ z b0 (u40 (n:=10 * cs.length) ∅ b1)) (sd ?_)))))))
 rw[hc]
theorem V90(k:Nat)(g:c60 m ps)(h1:lot.Pairwise (· < ·))(h2:∀ n∈lot,n < ps.length)(z:Z):b60 T (k + 9) F00 [.d (C10 m ps),.d (g80 lot)] z=some (.ok (.fr (j91 (b90 ps m.toNat lot))) z):=by
 have h8:=g.len;refine W.ok (o30 (ps:=2) (ns:=5) (b:=t90) rfl rfl (-0) (Wo (k80 k z g.web) (Wo (A30 (k + 1) h8 h1 h2 z) ?_)))
 refine ip (B:=False) (c:=2 < 5/\3 < 5/\4 < 5) (-0) (Wo (F80 (k + 5) g (Row.t lot) h2 z) ?_)
 refine(a00 (o:=U61 [.lst ((b90 ps m.toNat lot).map D.int)]) (K71 (by rw[g30];have:=g.m6;omega)) ?_ :)
 exact sd rfl
end
open L2 (D j71)
def P20(ks:List Int)(m:Int):List Int:=if m∈ks then ks else ks++[m]
theorem h01:∀ (gs:List (Int × List Int)) (m p:Int),(j71 gs m p).map (·.1)=P20 (gs.map (·.1)) m
 |[],_,_=>rfl
 |g::r,m,p=>by
  unfold j71 P20;by_cases h:g.1=m
  ·rw[if_pos h,Â0,if_pos (by rw[← h];exact É)];rfl
  ·rw[if_neg h,Â0,h01 r m p];unfold P20;rw[Â0];by_cases q:m∈r.map (·.1)
   ·rw[if_pos q,if_pos (Å _ q)]
   ·rw[if_neg q,if_neg (λz=>(ß.mp z).elim (λz=>h z.symm) q)];rfl
theorem h31:∀ (ns:List Int) (gs:List (Int × List Int)) (p:Nat),(s11 gs p ns).map (·.1)=ns.foldl P20 (gs.map (·.1))
 |[],_,_=>rfl
 |m::r,gs,p=>by
  show(s11 (j71 gs m p) (p + 1) r).map (·.1)=r.foldl P20 (P20 (gs.map (·.1)) m);rw[h31 r,h01]
theorem K81(ks:List Int)(m:Int):ks.length<=(P20 ks m).length/\(P20 ks m).length<=ks.length + 1:=by
 unfold P20;split
 ·exact⟨Ì _,le_succ _⟩
 ·rw[À0];exact⟨le_succ _,Ì _⟩
theorem C50:∀ (ns ks:List Int),ks.length<=(ns.foldl P20 ks).length/\(ns.foldl P20 ks).length<=ks.length + ns.length
 |[],ks=>⟨Ì _,Ì _⟩
 |m::r,ks=>by
  have h:=C50 r (P20 ks m);have k:=K81 ks m;rw[foldl_cons,Ú];omega
theorem h41{a:Int}:∀ ns:List Int,(ns.foldl P20 [a]).length=1↔∀ x∈ns,x=a
 |[]=>⟨λ_ _ h=>(nomatch h),λ_=>rfl⟩
 |m::r=>by
  rw[foldl_cons];by_cases h:m=a
  ·have e:P20 [a] m=[a]:=by unfold P20;rw[if_pos (by rw[h];exact É)]
   rw[e,h41 r];exact⟨λk x hx=>(ß.mp hx).elim (λz=>z.trans h) (k x),λk x hx=>k x (Å _ hx)⟩
  ·have e:P20 [a] m=[a,m]:=by unfold P20;rw[if_neg (λq=>h (ñ.mp q))];rfl
   rw[e];have:=(C50 r [a,m]).1;exact⟨λq=>by rw[Ú,Ý2] at this;omega,λq=>absurd (q m É) h⟩
def H20(ns:List Int):Nat:=(s11 [] 0 ns).length
theorem A91(ns:List Int):H20 ns=(ns.foldl P20 []).length:=by
 have:=congrArg Ò2 (h31 ns [] 0);rw[Ç] at this;exact this
theorem B01(ns:List Int):H20 ns<=ns.length:=by
 rw[A91];have:=(C50 ns []).2;rw[Â4,Nat.zero_add] at this;exact this
theorem h51{a:Int}{r:List Int}:1<=H20 (a::r):=by
 rw[A91];exact(C50 r (P20 [] a)).1
theorem K91{a:Int}{r:List Int}:H20 (a::r)=1↔∀ x∈r,x=a:=by
 rw[A91];exact h41 r
theorem q82{mk:List Int}{a:Int}:(∀ x∈mk,x=a)↔∀ p < mk.length,mk.getD p 0=a:=by
 constructor
 ·intro h p hp;rw[Í,Ò hp];exact h _ (Å8 hp)
 ·intro h x hx;obtain⟨p,hp,rfl⟩:=Ò1.mp hx;have:=h p hp;rw[Í,Ò hp] at this;exact this
theorem B11{mk:List Int}(h:0 < mk.length):H20 mk=1↔z61 mk (Û mk.length)=true:=by
 cases mk with
 |nil=>cases h
 |cons a r =>
  rw[K91];unfold z61;rw[Â6];have e0:(Û (a::r).length).getD 0 0=0:=by rw[Ú,List.range_succ_eq_map];rfl
  rw[e0];have k:=q82 (mk:=a::r) (a:=a);constructor
  ·intro q p hp;rw[beq_iff_eq];exact k.mp (λx hx=>(ß.mp hx).elim id (q x)) p (ç.mp hp)
  ·intro q x hx;exact k.mpr (λp hp=>eq_of_beq (q p (ç.mpr hp))) x (Å _ hx)
theorem L01(ns:List Int):(j91 ns).length=H20 ns:=by unfold j91 H20;rw[Ç]
section
variable {m:Int}{ps cs:List (Int × Int)}
def i50(m:Int)(ps cs:List (Int × Int))(ls:List (List Nat)):List Int:=(Û m.toNat).map λp=>e30 ls λl=>if H20 (b90 ps m.toNat l)=p + 1 then amt (cf cs) cs.length l else 0
theorem r70{ls:List (List Nat)}:(i50 m ps cs ls).length=m.toNat:=by unfold i50;rw[Ç,ì]
theorem L11:i50 m ps cs []=æ m.toNat 0:=by
 unfold i50;rw[List.eq_replicate_iff];exact⟨by rw[Ç,ì],λb hb=>by obtain⟨_,_,rfl⟩:=Ø.mp hb;rfl⟩
def B21(m:Int)(ps cs:List (Int × Int))(ls:List (List Nat))(p:Nat):Int:=e30 ls λl=>if H20 (b90 ps m.toNat l)=p + 1 then amt (cf cs) cs.length l else 0
theorem C60{ls:List (List Nat)}{i:Nat}(h:i < m.toNat):(i50 m ps cs ls)[i]?=some (B21 m ps cs ls i):=by
 unfold i50;rw[Ö,Ì0 h];rfl
theorem B31{ls:List (List Nat)}{l:List Nat}{p:Nat}:B21 m ps cs (ls++[l]) p=B21 m ps cs ls p + (if H20 (b90 ps m.toNat l)=p + 1 then amt (cf cs) cs.length l else 0):=by
 unfold B21;rw[O10]
 congr 1
 show(if H20 (b90 ps m.toNat l)=p + 1 then amt (cf cs) cs.length l else 0) + 0=_;rw[Ó5]
theorem B41{ls:List (List Nat)}{l:List Nat}{q:Nat}(hq:H20 (b90 ps m.toNat l)=q + 1)(hm:q < m.toNat):i50 m ps cs (ls++[l])=(i50 m ps cs ls).set q (B21 m ps cs ls q + amt (cf cs) cs.length l):=by
 refine List.ext_getElem? λi=>?_;by_cases h:i < m.toNat
 ·rw[C60 h,B31,List.getElem?_set];by_cases e:q=i
  ·subst e;rw[if_pos rfl,if_pos hq,if_pos (by rw[r70];exact hm)]
  ·rw[if_neg e,if_neg ∅,Ó5,C60 h]
 ·rw[Ê2 (by rw[r70];omega),Ê2 (by rw[û,r70];omega)]
theorem q92{n j:Nat}(h:j < n):L2.ixN n (j:Int)=some j:=by
 unfold L2.ixN;rw[if_pos ∅,if_pos ∅,Â3]
theorem r02{xs:List D}{j:Nat}{y:D}(h:j < xs.length):H90 xs (j:Int) y=some (xs.set j y):=by
 unfold H90;rw[q92 h];rfl
theorem z20:∀ ls:List (List Nat),k20 (ls.map g80)=true
 |[]=>rfl
 |l::r=>by
  show(k20 (l.map c70)&&k20 (r.map g80))=true;rw[z20 r,r30 l];rfl
theorem B10(k:Nat)(g:c60 m ps)(hc:cs.length=ps.length)(ha:∀ c∈cs,IsC c)(z:Z):b60 T (k + 11) p40 [.d (C10 m ps),.d (.tup (cs.map pr))] z=some (.ok (.fr ((i50 m ps cs (g40 ps.length)).map λt=>pr (d00 t (b30 cs)))) z):=by
 have h8:=g.len;have m6:=g.m6;obtain⟨b0,b1⟩:=l40 ha;refine W.ok (o30 (ps:=2) (ns:=5) (b:=j60) rfl rfl (-0) (Wo (h50 k (m:=m) (ts:=ps.map pr) g.web z (z31 (by rw[Ç];exact hc) ha)) ?_))
 refine(a00 (o:=x90 .mul (.lst [.int 0]) (.int m)) (a:=.fr ((i50 m ps cs []).map D.int)) (by
  show(if 0<=m/\m.toNat * 1<=most/\m < 1000000 then some (S.fr (æ m.toNat [D.int 0]).flatten) else none)=_;rw[if_pos ⟨by have:=g.m1;omega,by simp only[most];omega,by omega⟩,L11,List.map_replicate]
  congr 2
  induction m.toNat with
  |zero=>rfl
  |succ n ih=>rw[Ã3,Ã3,È1,ih];rfl) ?_ :)
 refine Wo (u60 (k + 7) (m:=m) (ts:=ps.map pr) (by rw[Ç];exact h8) z) ?_
 rw[Ç];refine M80 (λxs ρ z2=>z2=z/\∃ (dn rest:List (List Nat)) (o:Option S),dn++rest=g40 ps.length/\xs=rest.map g80/\ρ=[some (.d (C10 m ps)),some (.d (.tup (cs.map pr))),some (.fr ((i50 m ps cs dn).map D.int)),o,none]) _ ⟨rfl,[],g40 ps.length,none,rfl,rfl,(itE (by show(k20 _&&true)=true;rw[z20];rfl)).trans rfl⟩ ?_ ?_
 ·rintro x r ρ z2 ⟨rfl,dn,rest,o,hd,e,rfl⟩;cases rest with
  |nil=>cases e
  |cons l rest =>
   cases e;have hl:l∈g40 ps.length:=by rw[← hd];exact è _ É
   have h2:=O50 h8 hl;have h1:=q20 ((e10 h8).mem_iff.mp hl);obtain⟨q,hq,hm⟩:∃ q,H20 (b90 ps m.toNat l)=q + 1/\q < m.toNat:=by
    have a1:=B01 (b90 ps m.toNat l);rw[g30] at a1;have a2:1<=H20 (b90 ps m.toNat l):=by
     cases e:b90 ps m.toNat l with
     |nil=>have:=g30 (ps:=ps) (m:=m.toNat) (lot:=l);rw[e] at this;have:=g.m1;simp at *;omega|cons _ _=>exact h51
    exact⟨H20 (b90 ps m.toNat l) - 1,by omega,by omega⟩
   have eq:(((j91 (b90 ps m.toNat l)).length:Nat):Int) - 1=(q:Int):=by rw[L01,hq];omega
   refine Wo (V90 (k + 1) g h1 h2 z2) ?_;refine(a00 (o:=L2.atI ((i50 m ps cs dn).map D.int) ((((j91 (b90 ps m.toNat l)).length:Nat):Int) - 1)) (a:=.int (B21 m ps cs dn q)) (by rw[eq];exact L2.J40 (by rw[Ö,C60 hm];rfl)) ?_ :)
   refine Wo (z10 (k + 7) ∅ ha l z2) ?_
   refine(a00 (o:=H90 ((i50 m ps cs dn).map D.int) ((((j91 (b90 ps m.toNat l)).length:Nat):Int) - 1) (.int (B21 m ps cs dn q + amt (cf cs) cs.length l))) (a:=(i50 m ps cs (dn++[l])).map D.int) (by
    rw[eq,r02 (by rw[Ç,r70];exact hm),B41 hq hm,List.map_set]) ?_ :)
   exact⟨rfl,dn++[l],rest,_,by rw[Æ1];exact hd,rfl,rfl⟩
 ·rintro ρ z2 ⟨rfl,dn,rest,o,hd,e,rfl⟩;cases rest with
  |cons _ _=>cases e
  |nil =>
   rw[Ë0] at hd;subst hd;refine Wo (l50 (k + 7) ∅ ha z2) ?_
   refine ip (by rw[Ç,r70];exact q00 ∅) (l01 (λx=>match x with | .int t=>pr (d00 t (b30 cs)) | _=>x) (λx hx=>?_) ?_)
   ·obtain⟨t,_,rfl⟩:=Ø.mp hx;exact Wo (F60 (k + 6) _ _ z2 b0 (u40 (n:=10 * cs.length) ∅ b1)) ⟨rfl,rfl⟩
   ·rw[ô];exact sd rfl
theorem W00(c:Nat->Int × Int)(n:Nat):∀ a:List Nat,s60 c (a++[n])=s60 c a * (c n).2
 |[]=>by show(c n).2 * 1=1 * (c n).2;rw[mul_one,Int.one_mul]
 |x::r=>by
  show(c x).2 * s60 c (r++[n])=(c x).2 * s60 c r * (c n).2;rw[W00 c n r,Ð7]
theorem B51(c:Nat->Int × Int):∀ j:Nat,A31 c j=s60 c (Û j)
 |0=>rfl
 |j + 1=>by
  show A31 c j * (c j).2=_;rw[B51 c j,Î4,W00]
theorem C70(hc:cs.length=ps.length):e30 (c30 ps.length) (amt (cf cs) ps.length)=b30 cs:=by
 rw[g61,B51,← hc,A11]
theorem L21{a:List (List Nat)}{f g:List Nat->Int}:e30 a (λx=>f x + g x)=e30 a f + e30 a g:=by
 induction a with
 |nil=>rfl
 |cons x r ih =>
  show f x + g x + e30 r (λx=>f x + g x)=f x + e30 r f + (g x + e30 r g);rw[ih];omega
theorem L31{a:List (List Nat)}(g:List Nat->Bool)(f:List Nat->Int):e30 a (λx=>if g x then f x else 0) + e30 a (λx=>if g x then 0 else f x)=e30 a f:=by
 rw[← L21];refine r60 λx _=>?_;cases g x
 ·exact Ö5 _
 ·exact Ó5 _
theorem A40(f g:Nat->Int):∀ l:List Nat,u70 (l.map λp=>f p + g p)=u70 (l.map f) + u70 (l.map g)
 |[]=>rfl
 |x::r=>by
  show f x + g x + u70 (r.map λp=>f p + g p)=f x + u70 (r.map f) + (g x + u70 (r.map g));rw[A40 f g r];omega
theorem G30:∀ {l:List Nat}{f:Nat->Int},(∀ p∈l,f p=0)->u70 (l.map f)=0
 |[],_,_=>rfl
 |x::r,f,h=>by
  show f x + u70 (r.map f)=0;rw[h x É,G30 λp hp=>h p (Å _ hp)];rfl
theorem h61:∀ a b:List Int,u70 (a++b)=u70 a + u70 b
 |[],b=>(Ö5 _).symm
 |x::r,b=>by
  show x + u70 (r++b)=x + u70 r + u70 b;rw[h61 r b];omega
theorem W10{v:Int}{q:Nat}:∀ {n:Nat},q < n->u70 ((Û n).map λp=>if q + 1=p + 1 then v else 0)=v
 |0,h=>by omega
 |n + 1,h=>by
  rw[Î4,À5,h61];by_cases e:q=n
  ·subst e;rw[G30 λp hp=>if_neg (by have:=ç.mp hp;omega)]
   show 0 + ((if q + 1=q + 1 then v else 0) + 0)=v;rw[if_pos rfl];omega
  ·rw[W10 (show q < n by omega)]
   show v + ((if q + 1=n + 1 then v else 0) + 0)=v;rw[if_neg ∅];omega
theorem h71:∀ {ls:List (List Nat)},(∀ l∈ls,1<=H20 (b90 ps m.toNat l)/\H20 (b90 ps m.toNat l)<=m.toNat)->u70 (i50 m ps cs ls)=e30 ls (amt (cf cs) cs.length)
 |[],_=>G30 λ_ _=>rfl
 |l::r,h=>by
  have e:i50 m ps cs (l::r)=(Û m.toNat).map λp=>(if H20 (b90 ps m.toNat l)=p + 1 then amt (cf cs) cs.length l else 0) + B21 m ps cs r p:=rfl;have k:=h l É;obtain⟨q,hq⟩:∃ q,H20 (b90 ps m.toNat l)=q + 1:=⟨H20 (b90 ps m.toNat l) - 1,by omega⟩
  rw[e,A40,hq,W10 ∅]
  have ih:=h71 λx hx=>h x (Å _ hx);show _ + u70 (i50 m ps cs r)=amt (cf cs) cs.length l + e30 r (amt (cf cs) cs.length);rw[ih]
end
section
variable {m:Int}{ps cs:List (Int × Int)}{pl:List Nat}
theorem h81(g:c60 m ps)(l:List Nat):H20 (b90 ps m.toNat l)=0 + 1↔b80 ps m.toNat (Û m.toNat) l=true:=by
 have h:=B11 (mk:=b90 ps m.toNat l) (by rw[g30];have:=g.m1;omega)
 rw[g30] at h;exact h
theorem B61(g:c60 m ps){ls:List (List Nat)}:B21 m ps cs ls 0=e30 ls λl=>if b80 ps m.toNat (Û m.toNat) l then amt (cf cs) cs.length l else 0:=by
 unfold B21;refine r60 λl _=>?_;by_cases h:b80 ps m.toNat (Û m.toNat) l=true
 ·rw[if_pos ((h81 g l).mpr h),if_pos h]
 ·rw[if_neg (λq=>h ((h81 g l).mp q)),if_neg h]
theorem B71{lot:List Nat}(hp:∀ p∈pl,p < m.toNat)(h:b80 ps m.toNat (Û m.toNat) lot=true):b80 ps m.toNat pl lot=true:=by
 unfold b80 z61 at *
 rw[Â6] at *
 intro p hpl;have a:=eq_of_beq (h p (ç.mpr (hp p hpl)));cases pl with
 |nil=>cases hpl
 |cons q r =>
  have b:=eq_of_beq (h q (ç.mpr (hp q É)));rw[beq_iff_eq];show _=(b90 ps m.toNat lot).getD q 0;rw[a,b]
theorem G40{f g:List Nat->Int}:∀ {a:List (List Nat)},(∀ x∈a,f x<=g x)->e30 a f<=e30 a g
 |[],_=>Ë4 0|x::r,h=>Int.add_le_add (h x É) (G40 λy hy=>h y (Å _ hy))
theorem P30{f:List Nat->Int}{a:List (List Nat)}(h:∀ x∈a,0<=f x):0<=e30 a f:=by
 have:=G40 (f:=λ_=>0) (g:=f) h;have e:e30 a (λ_=>0)=0:=by
  induction a with
  |nil=>rfl
  |cons x r ih =>
   show 0 + e30 r (λ_=>0)=0;rw[ih (λy hy=>h y (Å _ hy)) (G40 λy hy=>h y (Å _ hy))];rfl
 omega
theorem L41(ha:∀ c∈cs,IsC c)(hc:cs.length=ps.length)(hp:∀ p∈pl,p < m.toNat):e30 (c30 ps.length) (λl=>if b80 ps m.toNat (Û m.toNat) l then amt (cf cs) ps.length l else 0)<=e30 (c30 ps.length) (λl=>if b80 ps m.toNat pl l then amt (cf cs) ps.length l else 0):=by
 refine G40 λl _=>?_;have p0:=(F90 ha (lot:=l) (show ps.length<=cs.length by omega)).1
 by_cases h:b80 ps m.toNat (Û m.toNat) l=true
 ·rw[if_pos h,if_pos (B71 hp h)];exact Ë4 _
 ·rw[if_neg h];split
  ·exact p0
  ·exact Ë4 _
theorem B81(f:List Nat->Int):∀ ls:List (List Nat),u70 (ls.map f)=e30 ls f
 |[]=>rfl
 |x::r=>by
  show f x + u70 (r.map f)=f x + e30 r f;rw[B81 f r]
theorem A50{n:Nat}{x:Int}(h0:0<=x)(h:x<=2 ^ n):x.natAbs<=2 ^ n:=by
 have e:((2 ^ n:Nat):Int)=2 ^ n:=Ë6 2 n;rw[← e] at h;omega
theorem z30(k:Nat)(g:c60 m ps)(hc:cs.length=ps.length)(ha:∀ c∈cs,IsC c){ls:List (List Nat)}(hs:e30 ls (amt (cf cs) ps.length)<=b30 cs)(z:Z) :
  b60 T (k + 4) c50 [.d (.lst (ls.map λl=>pr (d00 (amt (cf cs) ps.length l) (b30 cs))))] z=some (.ok (.d (pr (d00 (e30 ls (amt (cf cs) ps.length)) (b30 cs)))) z):=by
 obtain⟨b0,b1⟩:=l40 ha;have h8:=g.len;have p0:∀ l:List Nat,0<=amt (cf cs) ps.length l:=λl=>(F90 ha (lot:=l) (show ps.length<=cs.length by omega)).1
 have h:=l00 k (n:=10 * cs.length) (B:=b30 cs) (ts:=ls.map (amt (cf cs) ps.length)) b0 ∅ (A50 ∅ b1) (λt ht=>by obtain⟨l,_,rfl⟩:=Ø.mp ht;exact p0 l) (by rw[B81];exact A50 (P30 λl _=>p0 l) (Å9 hs b1)) z
 rw[B81,ô] at h;exact h
theorem b22(g:c60 m ps)(hp:f20 m pl)(hc:cs.length=ps.length)(ha:∀ c∈cs,IsC c){n:Nat}(hn:n < ps.length):∃ t1 t0 b:Int,0 < b/\b<=2 ^ 80/\0<=t0/\t0<=b/\0<=t1/\t1<=b/\∀ c:Int × Int,IsC c->Rt (a60 m ps (cs.set n c) pl) (c.1 * t1 + (c.2 - c.1) * t0) (c.2 * b):=by
 have h8:=g.len;have fn:frees ps.length [] []=Û ps.length:=List.filter_eq_self.mpr λ_ _=>rfl;have hq:=l91 (K:=ps.length) (held:=[]) (lack:=[]) hn (λh=>nomatch h) (λh=>nomatch h);rw[fn,É1] at hq;have mem:∀ k∈frees ps.length [] [n],k < ps.length/\k≠n:=λk hk=>by
  obtain⟨h1,_,h3⟩:=x40.mp hk;exact⟨h1,λe=>h3 (by rw[e];exact ñ.mpr rfl)⟩
 have hcf:∀ k∈frees ps.length [] [n],k < ps.length/\IsC (cf cs k):=λk hk=>⟨(mem k hk).1,a41 ha (by rw[hc];exact(mem k hk).1)⟩
 have hcf':=λk hk=>(hcf k hk).2;obtain⟨b0,b1⟩:=G00 hcf';obtain⟨x0,x1⟩:=V50 (g:=b80 ps m.toNat pl) _ [] hcf';obtain⟨y0,y1⟩:=V50 (g:=b80 ps m.toNat pl) _ [n] hcf';have b2:s60 (cf cs) (frees ps.length [] [n])<=2 ^ 80:=by
  refine Å9 b1 ?_;have:(frees ps.length [] [n]).length<=ps.length:=by have:=Ç9 (λk=>!(([]:List Nat).contains k || [n].contains k)) (Û ps.length);rw[ì] at this;exact this
  exact_mod_cast Ç8 (n:=2) (-0) (show 10 * (frees ps.length [] [n]).length<=80 by omega)
 refine⟨tot (b80 ps m.toNat pl) (cf cs) (frees ps.length [] [n]) [n],tot (b80 ps m.toNat pl) (cf cs) (frees ps.length [] [n]) [],s60 (cf cs) (frees ps.length [] [n]),b0,b2,x0,x1,y0,y1,λc hC=>?_⟩;have hl:(cs.set n c).length=ps.length:=by rw[û];exact hc
 have e1:∀ k∈frees ps.length [] [n],cf (cs.set n c) k=cf cs k:=λk hk=>by
  rw[cf,cf,Í,Í,Õ λe=>(mem k hk).2 e.symm]
 have e2:cf (cs.set n c) n=c:=by
  rw[cf,Í,Ý ∅];rfl
 rw[x30 g hp hl,O00 (O40 g hp) hq [] (λk hk=>ç.mp hk) (λ_ h=>nomatch h),V30 hq];have b0:0 < s60 (cf (cs.set n c)) (n::frees ps.length [] [n]):=(G00 λk hk=>by
  rcases ß.mp hk with rfl | hk
  ·rw[e2];exact hC
  ·rw[e1 k hk];exact(hcf k hk).2).1
 have et:tot (b80 ps m.toNat pl) (cf (cs.set n c)) (n::frees ps.length [] [n]) []=(cf (cs.set n c) n).1 * tot (b80 ps m.toNat pl) (cf (cs.set n c)) (frees ps.length [] [n]) [n] + ((cf (cs.set n c) n).2 - (cf (cs.set n c) n).1) * tot (b80 ps m.toNat pl) (cf (cs.set n c)) (frees ps.length [] [n]) []:=rfl;rw[e40,e2,m01 e1] at b0 ⊢;rw[et,e2,x60 _ _ e1,x60 _ _ e1];exact Rt.low b0
abbrev h70(l:List (Int × Int))(a:Nat)(x:Int × Int):List (Int × Int):=l.take a++x::l.drop a
abbrev shF(a n:Nat):Nat:=if n < a then n else n + 1
theorem B91{l:List (Int × Int)}{a:Nat}(h:a<=l.length)(x:Int × Int)(n:Nat)(d:Int × Int):(h70 l a x).getD (shF a n) d=l.getD n d:=by
 rw[Í,Í]
 congr 1
 have hl:(l.take a).length=a:=by rw[Á7];omega
 unfold shF;split
 ·rename_i q;rw[Ç6 ∅,Í3,if_pos q]
 ·rename_i q;rw[À8 ∅,hl,show n + 1 - a=(n - a) + 1 by omega,List.getElem?_cons_succ,Í4]
  congr 1
  omega
theorem r12{l:List (Int × Int)}{a:Nat}(h:a<=l.length)(x:Int × Int)(d:Int × Int):(h70 l a x).getD a d=x:=by
 have hl:(l.take a).length=a:=by rw[Á7];omega
 rw[Í,À8 ∅,hl,Nat.sub_self];rfl
theorem G50{l:List (Int × Int)}{a:Nat}(h:a<=l.length)(x:Int × Int):(h70 l a x).length=l.length + 1:=by
 rw[À0,Ú,Á7,Ç3];omega
theorem C01{l:List (Int × Int)}{a:Nat}{x y:Int × Int}(h:y∈h70 l a x):y=x∨y∈l:=by
 rcases Á0.mp h with h | h
 ·exact .inr (List.mem_of_mem_take h)
 ·rcases ß.mp h with h | h
  ·exact .inl h
  ·exact .inr (Ò0 h)
theorem G60{g:List Nat->Bool}{c:Nat->Int × Int}{f:Nat->Nat}:∀ (ns held:List Nat),tot g c (ns.map f) (held.map f)=tot (λl=>g (l.map f)) (λn=>c (f n)) ns held
 |[],_=>rfl
 |n::r,held=>by
  show(c (f n)).1 * tot g c (r.map f) ((n::held).map f) + ((c (f n)).2 - (c (f n)).1) * tot g c (r.map f) (held.map f)=_;rw[G60 r (n::held),G60 r held];rfl
theorem m11{c:Nat->Int × Int}{f:Nat->Nat}(ns:List Nat):s60 c (ns.map f)=s60 (λn=>c (f n)) ns:=by
 unfold s60;rw[ô];rfl
theorem G70{qs:List (Int × Int)}{f:Nat->Nat}(h:∀ n,qs.getD (f n) (0,0)=ps.getD n (0,0))(k:Nat):∀ (lot:List Nat) (mk:List Int),(lot.map f).foldl (i40 qs) mk=lot.foldl (i40 ps) mk
 |[],_=>rfl
 |n::r,mk=>by
  show(r.map f).foldl (i40 qs) (i40 qs mk (f n))=r.foldl (i40 ps) (i40 ps mk n);have e:i40 qs mk (f n)=i40 ps mk n:=by unfold i40 tA tB;rw[h n]
  rw[e];exact G70 h k r _
theorem m21{a:Nat}(h:a<=ps.length)(x:Int × Int)(k:Nat)(lot:List Nat):b80 (h70 ps a x) k pl (lot.map (shF a))=b80 ps k pl lot:=by
 unfold b80 b90;rw[G70 (ps:=ps) (qs:=h70 ps a x) (f:=shF a) (λn=>B91 h x n (0,0)) k]
theorem m31{K a:Nat}(h:a<=K):(Û (K + 1)).Perm (a::(Û K).map (shF a)):=by
 have inj:∀ i j,shF a i=shF a j->i=j:=λi j e=>by unfold shF at e;split at e <;> split at e <;> omega
 have no:∀ i,shF a i≠a:=λi e=>by unfold shF at e;split at e <;> omega
 refine(Í1 Ó1 (Æ2.mpr ⟨λq=>?_,?_⟩)).mpr λk=>?_
 ·obtain⟨i,_,e⟩:=Ø.mp q;exact no i e
 ·exact Ô3.map _ (λi j hij e=>hij (inj i j e)) Ó1
 ·rw[mem_range,Á1,Ø];constructor
  ·intro hk;by_cases e:k=a
   ·exact .inl e
   ·refine .inr ⟨if k < a then k else k - 1,ç.mpr (by split <;> omega),?_⟩
    unfold shF;split <;> (try split) <;> omega
  ·rintro (rfl | ⟨i,hi,rfl⟩)
   ·omega
   ·have:=ç.mp hi;unfold shF;split <;> omega
theorem m41{a:Nat}{x c:Int × Int}(h:a<=ps.length)(g:c60 m ps)(g':c60 m (h70 ps a x))(hp:f20 m pl)(hc:cs.length=ps.length)(ha:∀ c∈cs,IsC c)(hC:IsC c):(a60 m ps cs pl).1 * (a60 m (h70 ps a x) (h70 cs a c) pl).2<=(a60 m (h70 ps a x) (h70 cs a c) pl).1 * (a60 m ps cs pl).2:=by
 have hl':(h70 ps a x).length=ps.length + 1:=G50 h x;have hc':(h70 cs a c).length=(h70 ps a x).length:=by rw[G50 ∅ c,hl',hc]
 have hq:=m31 h;have hcf:∀ n∈Û ps.length,n < ps.length/\IsC (cf cs n):=λn hn=>⟨ç.mp hn,a41 ha (by rw[hc];exact ç.mp hn)⟩
 have b0:=(G00 λn hn=>(hcf n hn).2).1;have r1:Rt (a60 m ps cs pl) (tot (b80 ps m.toNat pl) (cf cs) (Û ps.length) []) (s60 (cf cs) (Û ps.length)):=by
  rw[x30 g hp hc];exact Rt.low b0
 have e1:∀ n,cf (h70 cs a c) (shF a n)=cf cs n:=λn=>B91 ∅ c n (0,1)
 have e2:cf (h70 cs a c) a=c:=r12 ∅ c (0,1)
 have et:∀ held:List Nat,tot (b80 (h70 ps a x) m.toNat pl) (cf (h70 cs a c)) ((Û ps.length).map (shF a)) (held.map (shF a))=tot (b80 ps m.toNat pl) (cf cs) (Û ps.length) held:=λheld=>by
  rw[G60]
  congr 1
  ·funext l;exact m21 h x m.toNat l
  ·funext n;exact e1 n
 have eb:s60 (cf (h70 cs a c)) ((Û ps.length).map (shF a))=s60 (cf cs) (Û ps.length):=by
  rw[m11]
  congr 1
  funext n;exact e1 n
 obtain⟨c1,c2,c3,c4,_⟩:=hC;have r2:Rt (a60 m (h70 ps a x) (h70 cs a c) pl) (c.1 * tot (b80 (h70 ps a x) m.toNat pl) (cf (h70 cs a c)) ((Û ps.length).map (shF a)) [a] + (c.2 - c.1) * tot (b80 ps m.toNat pl) (cf cs) (Û ps.length) []) (c.2 * s60 (cf cs) (Û ps.length)):=by
  rw[x30 g' hp hc',hl',O00 (O40 g' hp) hq [] (λk hk=>by rw[hl'];exact ç.mp hk) (λ_ h=>nomatch h),V30 hq,e40,eb,e2]
  have e0:=et [];have:tot (b80 (h70 ps a x) m.toNat pl) (cf (h70 cs a c)) (a::(Û ps.length).map (shF a)) []=(cf (h70 cs a c) a).1 * tot (b80 (h70 ps a x) m.toNat pl) (cf (h70 cs a c)) ((Û ps.length).map (shF a)) [a] + ((cf (h70 cs a c) a).2 - (cf (h70 cs a c) a).1) * tot (b80 (h70 ps a x) m.toNat pl) (cf (h70 cs a c)) ((Û ps.length).map (shF a)) (([]:List Nat).map (shF a)):=rfl;rw[this,e0,e2];exact Rt.low (Æ0 ∅ b0)
 have le:tot (b80 ps m.toNat pl) (cf cs) (Û ps.length) []<=tot (b80 (h70 ps a x) m.toNat pl) (cf (h70 cs a c)) ((Û ps.length).map (shF a)) [a]:=by
  rw[← et []];refine O90 (a72 g' hp) _ _ _ (λn hn=>?_) (λk hk=>by rw[ñ.mp hk,hl'];omega) (λ_ h=>nomatch h)
  obtain⟨i,hi,rfl⟩:=Ø.mp hn;rw[e1,hl'];refine⟨?_,(hcf i hi).2⟩;have:=(hcf i hi).1;unfold shF;split <;> omega
 generalize a60 m ps cs pl=v at *
 generalize a60 m (h70 ps a x) (h70 cs a c) pl=w at *
 generalize tot (b80 (h70 ps a x) m.toNat pl) (cf (h70 cs a c)) ((Û ps.length).map (shF a)) [a]=t1 at *
 generalize tot (b80 ps m.toNat pl) (cf cs) (Û ps.length) []=t at *
 generalize s60 (cf cs) (Û ps.length)=B at *
 have q1:=r1.eq;have q2:=r2.eq;have k1:c.2 * t<=c.1 * t1 + (c.2 - c.1) * t:=by
  have:=ë le c3;have e:c.2 * t=c.1 * t + (c.2 - c.1) * t:=by rw[← add_mul];congr 1;omega
  omega
 generalize c.1 * t1 + (c.2 - c.1) * t=u at *
 have p0:0 < c.2 * B:=Æ0 ∅ b0
 refine Î1 (a:=c.2 * B) ?_ p0;have z0:0<=v.2 * w.2:=Ê7 (Á6 r1.b0) (Á6 r2.b0)
 calc v.1 * w.2 * (c.2 * B)=(v.1 * B) * (c.2 * w.2):=by grind
  _=(c.2 * t) * (v.2 * w.2):=by rw[q1];grind
  _<=u * (v.2 * w.2):=Ê5 k1 z0
  _=w.1 * (c.2 * B) * v.2:=by rw[q2];grind
  _=w.1 * v.2 * (c.2 * B):=by grind
theorem L51(p:Int × Int):HT.leB (ky p) (ky p)=true:=by
 unfold HT.leB;unfold ky;rw[H92];simp
theorem Q11:∀ {l:List (Int × Int)}{a:Nat}{x:Int × Int},l[a]?=some x->Ch l->Ch (h70 l a x)
 |[],a,x,h,_=>by cases h
 |y::r,0,x,h,hc=>by
  have:y=x:=by simpa using h
  subst this;show Ch (y::y::r);exact⟨L51 y,hc⟩
 |[y],a + 1,x,h,_=>by simp at h
 |y::w::r,a + 1,x,h,hc=>by
  have h':(w::r)[a]?=some x:=by simpa using h
  have ih:=Q11 (l:=w::r) (a:=a) h' hc.2;show Ch (y::(h70 (w::r) a x));cases a with
  |zero =>
   have:w=x:=by simpa using h'
   subst this;exact⟨hc.1,ih⟩
  |succ a=>exact⟨hc.1,ih⟩
theorem L61{a:Nat}(g:c60 m ps)(h7:ps.length<=7)(h:a < ps.length):c60 m (h70 ps a ps[a]) :=
 ⟨g.m1,g.m6,by rw[G50 (Ç5 h)];omega,λp hp=>by
  rcases C01 hp with rfl | hp
  ·exact g.tie _ (Å8 h)
  ·exact g.tie p hp,Q11 (Ò h) g.ch⟩
theorem h91(g:c60 m ps):f20 m (Û m.toNat):=by
 have m1:=g.m1;refine⟨λh=>?_,Æ9,λp hp=>by have:=ç.mp hp;omega⟩
 have:=congrArg Ò2 h;rw[ì] at this;simp at this;omega
abbrev b32(ps cs:List (Int × Int))(x:D):D:=pr (d00 (amt (cf cs) ps.length (z00 x)) (b30 cs))
theorem P40(ls:List (List Nat)):(ls.map g80).map (b32 ps cs)=ls.map λl=>pr (d00 (amt (cf cs) ps.length l) (b30 cs)):=by
 rw[ô];refine Ä0 λl _=>?_;show pr (d00 (amt (cf cs) ps.length (z00 (g80 l))) (b30 cs))=_;rw[g00]
theorem C80(g:c60 m ps):e30 (d30 m ps pl) (amt (cf cs) ps.length)=e30 (c30 ps.length) λl=>if b80 ps m.toNat pl l then amt (cf cs) ps.length l else 0:=by
 rw[x50,j90 (e10 g.len)]
theorem G80(g:c60 m ps)(hc:cs.length=ps.length)(ha:∀ c∈cs,IsC c):e30 (d30 m ps pl) (amt (cf cs) ps.length)<=b30 cs:=by
 rw[C80 g,← C70 hc];refine G40 λl _=>?_;have:=(F90 ha (lot:=l) (show ps.length<=cs.length by omega)).1
 split <;> omega
theorem L71(g:c60 m ps)(hc:cs.length=ps.length):e30 ((P10 m ps pl).map (e70 ps.length)) (amt (cf cs) ps.length)=b30 cs - e30 (d30 m ps pl) (amt (cf cs) ps.length):=by
 rw[C30,b12 g,C80 g];have h:=L31 (a:=c30 ps.length) (b80 ps m.toNat pl) (amt (cf cs) ps.length);rw[C70 hc] at h;omega
theorem P50{B:Int}(hB:0 < B):d00 B B=(1,1):=by
 unfold d00;rw[Int.gcd_self];have e:((B.natAbs:Nat):Int)=B:=by omega
 rw[e,Int.ediv_self ∅]
abbrev rtE(m:Int)(ps cs:List (Int × Int))(pl:List Nat)(o5 o6 o7 o8 o9:Option S):Env:=[some (.d (C10 m ps)),some (.d (.tup (cs.map pr))),some (.d (.tup (pl.map c70))),some (.d (.tup ((Û m.toNat).map c70))),some (.d (pr (a60 m ps cs pl))),o5,o6,o7,o8,o9]
abbrev bRr:Nat->Sm:=rec k70 λ_ r=>tl r
theorem b42(k:Nat)(g:c60 m ps)(hp:f20 m pl)(hc:cs.length=ps.length)(ha:∀ c∈cs,IsC c){z:Z}{o5 o6 o7:Option S}{Q:O->Z->Prop}{E:Nat->Z->Prop}{tp:Bool}(q:Q (.rt (.d (.bl true))) z):WS (P60 T (k + 11 + 2)) tp (bRr 8) (rtE m ps cs pl o5 o6 o7 (some (.d (.lst ((i50 m ps cs (g40 ps.length)).map λt=>pr (d00 t (b30 cs)))))) (some (.d (pr (a60 m ps cs (Û m.toNat)))))) z Q E:=by
 obtain⟨b0,b1⟩:=l40 ha;have h8:=g.len;have m1:=g.m1;have hs:u70 (i50 m ps cs (g40 ps.length))=b30 cs:=by
  rw[h71 λl hl=>?_,hc,j90 (e10 h8),C70 hc];refine⟨?_,?_⟩
  ·cases e:b90 ps m.toNat l with
   |nil=>have:=g30 (ps:=ps) (m:=m.toNat) (lot:=l);rw[e] at this;simp at this;omega|cons _ _=>exact h51
  ·have a1:=B01 (b90 ps m.toNat l)
   rwa [g30] at a1
 have c1:=l00 (k + 9) (n:=10 * cs.length) (B:=b30 cs) (ts:=i50 m ps cs (g40 ps.length)) b0 ∅ (A50 ∅ b1) (λt ht=>by
  obtain⟨p,_,rfl⟩:=Ø.mp ht;refine P30 λl _=>?_;have:=(F90 ha (lot:=l) (Ì cs.length)).1;split <;> omega) (by rw[hs];exact A50 ∅ b1) z
 rw[hs,P50 b0] at c1;have e0:d00 (B21 m ps cs (g40 ps.length) 0) (b30 cs)=a60 m ps cs (Û m.toNat):=by
  unfold a60;rw[B61 g,j90 (e10 h8),hc]
 have w:=r40 g (h91 g) hc ha;have t:=r40 g hp hc ha;have le:(a60 m ps cs (Û m.toNat)).1 * (a60 m ps cs pl).2<=(a60 m ps cs pl).1 * (a60 m ps cs (Û m.toNat)).2:=by
  have hq:=L41 (m:=m) (pl:=pl) ha hc λp hpp=>by have:=hp.lt p hpp;omega
  have r1:Rt (a60 m ps cs (Û m.toNat)) _ _:=Rt.low b0;have r2:Rt (a60 m ps cs pl) _ _:=Rt.low b0;have q1:=r1.eq;have q2:=r2.eq;refine Î1 (a:=b30 cs) ?_ b0;have z0:0<=(a60 m ps cs (Û m.toNat)).2 * (a60 m ps cs pl).2:=Ê7 (Á6 w.b0) (Á6 t.b0);have hq:=Ê5 hq z0;generalize (a60 m ps cs (Û m.toNat))=a at *
  generalize a60 m ps cs pl=b at *
  calc a.1 * b.2 * b30 cs=(a.1 * b30 cs) * b.2:=by grind
   _=_:=by rw[q1,Ð7]
   _<=_:=hq
   _=(b.1 * b30 cs) * a.2:=by rw[q2];grind
   _=b.1 * a.2 * b30 cs:=by grind
 refine Wo c1 ?_;refine(a00 (o:=j81 (.lst ((i50 m ps cs (g40 ps.length)).map λt=>pr (d00 t (b30 cs)))) (.int 0)) (a:=pr (a60 m ps cs (Û m.toNat))) (by rw[← e0];exact y71 (j:=0) (by rw[Ö,C60 ∅];rfl)) ?_ :)
 refine ie (E32 (a60 m ps cs (Û m.toNat))) ?_;refine ie (b:=!((((i50 m ps cs (g40 ps.length)).map λt=>pr (d00 t (b30 cs))).length:Int) == m)) (by rw[Ç,r70,show((m.toNat:Nat):Int)=m by omega,beq_self_eq_true];rfl) ?_
 refine(a00 (l51 w.t0 (w.t (-0)) (Á6 t.b0) (t.b (-0))) ?_ :)
 refine(a00 (l51 t.t0 (t.t (-0)) (Á6 w.b0) (w.b (-0))) ?_ :)
 refine it (b:=decide (_<=_)) (decide_eq_true le) ?_;refine it (b:=decide (_<=_)) (decide_eq_true t.t0) ?_;show Q (.rt (.d (.bl (decide ((a60 m ps cs pl).1<=(a60 m ps cs pl).2))))) z;rw[decide_eq_true t.tb];exact q
abbrev tlF(ps cs:List (Int × Int))(ls:List (List Nat)):Int:=e30 ls (amt (cf cs) ps.length)
abbrev m51(m:Int)(ps:List (Int × Int))(pl:List Nat):List (List Nat):=(P10 m ps pl).map (e70 ps.length)
theorem C11{j:Nat}{lot:List Nat}:(e70 j lot).Pairwise (· < ·):=É0 _ Æ9
theorem r22{l:List Nat}(h:l∈m51 m ps pl):l.Pairwise (· < ·)/\∀ n∈l,n < ps.length:=by
 obtain⟨x,_,rfl⟩:=Ø.mp h;exact⟨C11,λn hn=>A71 hn⟩
theorem b52(g:c60 m ps){l:List Nat}(h:l∈d30 m ps pl):l.Pairwise (· < ·)/\∀ n∈l,n < ps.length:=by
 have hl:=(È4.mp h).1;exact⟨q20 ((e10 g.len).mem_iff.mp hl),O50 g.len hl⟩
theorem b62(k:Nat)(g:c60 m ps)(hp:f20 m pl)(hc:cs.length=ps.length)(ha:∀ c∈cs,IsC c){z:Z}{o6 o7 o8 o9:Option S}{Q:O->Z->Prop}{E:Nat->Z->Prop}{tp:Bool}(q:Q (.rt (.d (.bl true))) z):WS (P60 T (k + 11 + 2)) tp (bRr 5) (rtE m ps cs pl (some (.fr ((m51 m ps pl).map g80))) o6 o7 o8 o9) z Q E:=by
 obtain⟨b0,b1⟩:=l40 ha;have h8:=g.len;have gl:tlF ps cs (d30 m ps pl)<=b30 cs:=G80 g hc ha;have g0:0<=tlF ps cs (d30 m ps pl):=P30 λl _=>(F90 ha (lot:=l) (show ps.length<=cs.length by omega)).1
 have rs:e30 (m51 m ps pl) (amt (cf cs) ps.length)=b30 cs - tlF ps cs (d30 m ps pl):=L71 g hc;have c1:=z30 (k + 9) g hc ha (ls:=m51 m ps pl) (by rw[rs];omega) z
 rw[rs] at c1;have c2:=l00 (k + 9) (n:=10 * cs.length) (B:=b30 cs) (ts:=[tlF ps cs (d30 m ps pl),b30 cs - tlF ps cs (d30 m ps pl)]) b0 ∅ (A50 ∅ b1) (λt ht=>by
  simp only[Á1,List.mem_nil_iff,or_false] at ht;rcases ht with rfl | rfl <;> omega) (by
  show(tlF ps cs (d30 m ps pl) + (b30 cs - tlF ps cs (d30 m ps pl) + 0)).natAbs<=_;rw[show tlF ps cs (d30 m ps pl) + (b30 cs - tlF ps cs (d30 m ps pl) + 0)=b30 cs by omega]
  exact A50 ∅ b1) z
 rw[show u70 [tlF ps cs (d30 m ps pl),b30 cs - tlF ps cs (d30 m ps pl)]=b30 cs by show tlF ps cs (d30 m ps pl) + (b30 cs - tlF ps cs (d30 m ps pl) + 0)=b30 cs;omega,P50 b0] at c2
 have et:a60 m ps cs pl=d00 (tlF ps cs (d30 m ps pl)) (b30 cs):=by unfold a60 tlF;rw[C80 g]
 rw[Â0,Â0,map_nil,← et] at c2;refine(x71 (.d (pr (d00 (b30 cs - tlF ps cs (d30 m ps pl)) (b30 cs)))) (rtE m ps cs pl (some (.fr ((m51 m ps pl).map g80))) o6 (some (.d (pr (d00 (b30 cs - tlF ps cs (d30 m ps pl)) (b30 cs))))) o8 o9) ?_ ?_ ?_ :)
 ·refine ip (by rw[Ç,Ç];exact q00 (Ù (Ç9 _ _) (Ù (n60 h8) (-0)))) (l01 (b32 ps cs) (λx hx=>?_) ?_)
  ·obtain⟨l,hl,rfl⟩:=Ø.mp hx;have hi:=r22 hl;refine Wo (n70 (k + 2) g hc ha hi.1 hi.2 z) ⟨?_,rfl⟩;rw[b32,g00]
  ·rw[P40];exact Wo c1 ⟨rfl,rfl⟩
 ·rw[f11 rfl];rfl
 refine Wo c2 ?_;refine(x71 (.d (.tup [.lst ((i50 m ps cs (g40 ps.length)).map λt=>pr (d00 t (b30 cs))),pr (a60 m ps cs (Û m.toNat))])) (rtE m ps cs pl (some (.d (.lst ((m51 m ps pl).map g80)))) (L20 false o6) (some (.d (pr (d00 (b30 cs - tlF ps cs (d30 m ps pl)) (b30 cs))))) (some (.d (.lst ((i50 m ps cs (g40 ps.length)).map λt=>pr (d00 t (b30 cs)))))) (some (.d (pr (a60 m ps cs (Û m.toNat)))))) ?_ ?_ ?_ :)
 ·exact Wo (B10 (k + 2) g hc ha z) (Wo (r50 (k + 2) g (h91 g) hc ha z) ⟨rfl,rfl⟩)
 ·rfl
 exact b42 k g hp hc ha q
theorem b72(k:Nat)(g:c60 m ps)(hp:f20 m pl)(hc:cs.length=ps.length)(ha:∀ c∈cs,IsC c){z:Z}{o5 o6 o7 o8 o9:Option S}{Q:O->Z->Prop}{E:Nat->Z->Prop}{tp:Bool}(q:Q (.rt (.d (.bl true))) z):WS (P60 T (k + 11 + 2)) tp (bRr 3) (rtE m ps cs pl o5 o6 o7 o8 o9) z Q E:=by
 have h8:=g.len;refine Wo (b02 (k + 4) g hp z) ?_;refine M80 (λxs ρ z2=>z2=z/\∃ (dn rest:List (List Nat)) (o6 o7 o8 o9:Option S),dn++rest=P10 m ps pl/\xs=rest.map g80/\ρ=rtE m ps cs pl (some (.fr ((dn.map (e70 ps.length)).map g80))) o6 o7 o8 o9) _ ⟨rfl,[],P10 m ps pl,_,_,_,_,rfl,rfl,(itE (by show(k20 _&&true)=true;rw[z20];rfl)).trans rfl⟩ ?_ ?_
 ·rintro x r ρ z2 ⟨rfl,dn,rest,o6,o7,o8,o9,hd,e,rfl⟩;cases rest with
  |nil=>cases e
  |cons l rest =>
   cases e;have hlen:dn.length<=256:=by
    have h1:=congrArg Ò2 hd;rw[À0] at h1;have h2:(P10 m ps pl).length<=256:=Ù (Ç9 _ _) (n60 h8);omega
   refine(a00 (o:=itD .rng1 [.int ((ps.map pr).length:Nat)]) (a31 (n:=(ps.map pr).length) (by rw[Ç];omega)) ?_ :)
   rw[show(ps.map pr).length=ps.length from Ç _];refine ip (by rw[Ç,List.length_range'];exact q00 ∅) (s62 (λx=>match x with | .int i=>!l.contains i.toNat | _=>false) id (λx hx=>?_) ?_)
   ·obtain⟨n,hn,rfl⟩:=Ø.mp hx;refine(a00 (o:=(C41 (c70 n) (l.map c70)).map (!·)) (a:=!l.contains n) (by rw[a51,Ì4];rfl) ?_ :)
    exact⟨rfl,rfl,λ_=>⟨rfl,rfl⟩⟩
   ·have e1:List.map id (List.filter (λx=>match x with | .int i=>!l.contains i.toNat | _=>false) ((Ã8 0 ps.length).map c70))=(e70 ps.length l).map c70:=by
     rw[map_id,filter_map,← Ì2];rfl
    rw[e1];refine ip ⟨r30 _,by rw[Ç,Ç];simp only[most];omega⟩ ?_
    refine⟨rfl,dn++[l],rest,some (.d (g80 l)),o7,o8,o9,by rw[Æ1];exact hd,rfl,?_⟩
    rw[À5,À5];rfl
 ·rintro ρ z2 ⟨rfl,dn,rest,o6,o7,o8,o9,hd,e,rfl⟩;cases rest with
  |cons _ _=>cases e
  |nil =>
   rw[Ë0] at hd;subst hd;exact(b62 k g hp hc ha q :)
theorem m61(g:c60 m ps):a60 m ps cs pl=d00 (tlF ps cs (d30 m ps pl)) (b30 cs):=by
 unfold a60 tlF;rw[C80 g]
theorem C21(k:Nat)(g:c60 m ps)(hp:f20 m pl)(hc:cs.length=ps.length)(ha:∀ c∈cs,IsC c)(z:Z):b60 T (k + 14) z90 [.d (C10 m ps),.d (.tup (cs.map pr)),.d (.tup (pl.map c70))] z=some (.ok (.d (.bl true)) z):=by
 have h8:=g.len;have m1:=g.m1;have m6:=g.m6;have c1:=z30 (k + 9) g hc ha (ls:=d30 m ps pl) (G80 g hc ha) z;rw[← m61 g] at c1;refine W.ok (o30 (ps:=3) (ns:=10) (b:=k70) rfl rfl (-0) ?_)
 refine(a00 (o:=lrD [.int m]) (U70 ∅ ∅) ?_ :)
 rw[z51];refine Wo (r50 (k + 2) g hp hc ha z) (Wo (A20 (k + 4) g hp z) ?_);refine ip (by rw[Ç];exact q00 (Ù (Ç9 _ _) (Ù (n60 h8) (-0)))) (l01 (b32 ps cs) (λx hx=>?_) ?_)
 ·obtain⟨l,hl,rfl⟩:=Ø.mp hx;have hi:=b52 g hl;refine Wo (n70 (k + 2) g hc ha hi.1 hi.2 z) ⟨?_,rfl⟩;rw[b32,g00]
 ·rw[P40];refine Wo c1 (ie (E32 (a60 m ps cs pl)) ?_);refine(b72 k g hp hc ha (o5:=none) (o6:=none) (o7:=none) (o8:=none) (o9:=none) ?_ :);exact sd rfl
theorem r32{l:List (Int × Int)}{n:Nat}{c:Int × Int}(hl:l.length<=8)(h:n<=l.length):x90 .add (.tup (cutD (l.map pr) none (some (n:Int)))) (.tup [pr c])=some (.d (.tup (cutD (l.map pr) none (some (n:Int))++[pr c])))/\x90 .add (.tup (cutD (l.map pr) none (some (n:Int))++[pr c])) (.tup (cutD (l.map pr) (some (n:Int)) none))=some (.d (.tup ((h70 l n c).map pr))):=by
 have e1:(cutD (l.map pr) none (some (n:Int))).length<=8:=by rw[V00 _ ∅,Á7,Ç];omega
 have e2:(cutD (l.map pr) (some (n:Int)) none).length<=8:=by rw[r20,Ç3,Ç];omega
 refine⟨A01 (by show _ + 1<=_;omega),?_⟩
 rw[A01 (by rw[s72];omega),V00 _ ∅,Â3,r20,h70,À5,Â0,Æ1,map_take,List.map_drop];rfl
theorem b82{l:List (Int × Int)}{n:Nat}(h:n < l.length):cutD (l.map pr) (some (n:Int)) (some ((n:Int) + 1))=[pr l[n]]:=by
 have hl:(l.map pr).length=l.length:=Ç _;unfold cutD;rw[show((n:Int) + 1)=((n + 1:Nat):Int) by omega,HT.J20,HT.J20,hl,Ë7 ∅,Ë7 ∅,show n + 1 - n=1 by omega,Ä8 ∅,List.getElem_map];rfl
abbrev lsE(ns:List Int)(j:Nat)(m:Int)(ps cs:List (Int × Int))(pl:List Nat)(o7 o8 o9 o10 o11 o12 o13 o14:Option S):Env:=[some (.d (.lst (ns.map D.int))),some (.d (.int j)),some .z,some (.d (C10 m ps)),some (.d (.tup (cs.map pr))),some (.d (.tup (pl.map c70))),some (.d (pr (a60 m ps cs pl))),o7,o8,o9,o10,o11,o12,o13,o14]
abbrev bIn(n:Nat):Sm:=match J21 with
 |.seq (.fr _ _ _ b) _=>rec b (λ_ r=>tl r) n|_=>.nil
abbrev bTh(n:Nat):Sm:=match bIn 6 with
 |.seq (.iff _ b _) _=>rec b (λ_ r=>tl r) n|_=>.nil
theorem L81(k:Nat)(g:c60 m ps)(hp:f20 m pl)(hc:cs.length=ps.length)(ha:∀ c∈cs,IsC c){a:Nat}(h:a < ps.length)(z:Z):b60 T (k + 4) c50 [.d (.lst [pr (d00 ((cf cs a).1 * (a60 m ps (cs.set a (1,1)) pl).1) ((cf cs a).2 * (a60 m ps (cs.set a (1,1)) pl).2)),pr (d00 (((cf cs a).2 - (cf cs a).1) * (a60 m ps (cs.set a (0,1)) pl).1) ((cf cs a).2 * (a60 m ps (cs.set a (0,1)) pl).2))])] z=some (.ok (.d (pr (a60 m ps cs pl))) z):=by
 obtain⟨t1,t0,b,b0,bb,x0,x1,y0,y1,hs⟩:=b22 g hp hc ha h;have ho:=a41 ha (n:=a) ∅
 have s1:=hs (1,1) E12;have s0:=hs (0,1) E22;have sn:=hs _ ho;rw[set_own ∅] at sn
 have e1:Rt (a60 m ps (cs.set a (1,1)) pl) t1 b:=by
  have:=s1
  rwa [show(1:Int) * t1 + (1 - 1) * t0=t1 by omega,show(1:Int) * b=b by omega] at this
 have e0:Rt (a60 m ps (cs.set a (0,1)) pl) t0 b:=by
  have:=s0
  rwa [show(0:Int) * t1 + (1 - 0) * t0=t0 by omega,show(1:Int) * b=b by omega] at this
 generalize a60 m ps (cs.set a (1,1)) pl=v at *
 generalize a60 m ps (cs.set a (0,1)) pl=w at *
 generalize a60 m ps cs pl=u at *
 generalize cf cs a=c at *
 obtain⟨c1,c2,c3,c4,c5⟩:=ho;have B0:0 < c.2 * b:=Æ0 ∅ b0
 have p1:d00 (c.1 * v.1) (c.2 * v.2)=d00 (c.1 * t1) (c.2 * b):=by
  refine Rt.eqv (t:=c.1 * t1) (b:=c.2 * b) ?_ (Rt.low B0) B0;have y:0 < c.2 * v.2:=Æ0 ∅ e1.b0
  refine(Rt.low y).conv y ?_;have:=e1.eq
  calc c.1 * v.1 * (c.2 * b)=c.1 * c.2 * (v.1 * b):=by grind
   _=c.1 * t1 * (c.2 * v.2):=by rw[this];grind
 have p0:d00 ((c.2 - c.1) * w.1) (c.2 * w.2)=d00 ((c.2 - c.1) * t0) (c.2 * b):=by
  refine Rt.eqv (t:=(c.2 - c.1) * t0) (b:=c.2 * b) ?_ (Rt.low B0) B0;have y:0 < c.2 * w.2:=Æ0 ∅ e0.b0
  refine(Rt.low y).conv y ?_;have:=e0.eq;generalize c.2 - c.1=d at *
  calc d * w.1 * (c.2 * b)=d * c.2 * (w.1 * b):=by grind
   _=d * t0 * (c.2 * w.2):=by rw[this];grind
 rw[p1,p0];have q1:=Ê7 c3 y0;have q0:=Ê7 (show 0<=c.2 - c.1 by omega) x0
 have Bb:c.2 * b<=2 ^ 90:=by
  have:c.2 * b<=1024 * 2 ^ 80:=mul_le_mul ∅ bb ∅ ∅
  omega
 have sb:c.1 * t1 + (c.2 - c.1) * t0<=c.2 * b:=by
  have r1:=ë y1 c3;have r0:=ë x1 (show 0<=c.2 - c.1 by omega)
  have e:c.2 * b=c.1 * b + (c.2 - c.1) * b:=by rw[← add_mul];congr 1;omega
  omega
 have f:=l00 k (n:=90) (B:=c.2 * b) (ts:=[c.1 * t1,(c.2 - c.1) * t0]) B0 ∅ (A50 ∅ Bb) (λt ht=>by
  simp only[Á1,List.mem_nil_iff,or_false] at ht;rcases ht with rfl | rfl <;> omega) (by
  show(c.1 * t1 + ((c.2 - c.1) * t0 + 0)).natAbs<=_;exact A50 ∅ ∅) z
 have eu:d00 (u70 [c.1 * t1,(c.2 - c.1) * t0]) (c.2 * b)=u:=by
  show d00 (c.1 * t1 + ((c.2 - c.1) * t0 + 0)) (c.2 * b)=u;rw[Ó5];exact(Rt.low B0).eqv sn B0
 rw[eu] at f;exact f
theorem E42(k:Nat)(g:c60 m ps)(hp:f20 m pl)(hc:cs.length=ps.length)(ha:∀ c∈cs,IsC c){a:Nat}(h:a < ps.length){ns:List Int}{j:Nat}{z:Z}{o8 o9 o12 o13 o14:Option S}{Q:O->Z->Prop}{E:Nat->Z->Prop}
  (q:∀ o7 o8 o9 o10 o11 o12 o13 o14:Option S,Q (.nx (lsE ns j m ps cs pl o7 o8 o9 o10 o11 o12 o13 o14)) z):WS (P60 T (k + 37 + 2)) true (bTh 6) (lsE ns j m ps cs pl (some (.d (.int a))) o8 o9 (some (.d (pr (a60 m ps (cs.set a (0,1)) pl)))) (some (.d (pr (a60 m ps (cs.set a (1,1)) pl)))) o12 o13 o14) z Q E:=by
 have h8:=g.len;have ho:=a41 ha (n:=a) ∅
 have hc':∀ c,(cs.set a c).length=ps.length:=λc=>by rw[û];exact hc
 have bv:=(r40 g hp (hc' (1,1)) (g71 ha E12)).s;have bw:=(r40 g hp (hc' (0,1)) (g71 ha E22)).s;have c1:=L81 (k + 35) g hp hc ha h z;have bc:=ho.s.up (show 10<=80 by decide)
 have bd:((cf cs a).2 - (cf cs a).1).natAbs<=2 ^ 80:=by
  obtain⟨c1,c2,c3,c4,_⟩:=ho;have:=bc.b;omega
 generalize a60 m ps (cs.set a (1,1)) pl=v at *
 generalize a60 m ps (cs.set a (0,1)) pl=w at *
 have hi:=q52 (cs:=cs) (n:=a) ∅
 generalize cf cs a=c at *
 refine(a00 hi ?_ :);refine(x71 (.fr [pr (d00 (c.1 * v.1) (c.2 * v.2))]) (lsE ns j m ps cs pl (some (.d (.int a))) o8 o9 (some (.d (pr w))) (some (.d (pr v))) (some (.d (.int c.1))) (some (.d (.int c.2))) (some (.fr [pr (d00 (c.1 * v.1) (c.2 * v.2))]))) ?_ ?_ ?_ :)
 ·refine(a00 (a71 (-0) bc.t bv.t) ?_ :)
  refine(a00 (a71 (-0) bc.b bv.b) ?_ :)
  exact Wo (i30 (k + 36) _ _ z (Æ0 bc.b0 bv.b0) (a81 (n:=80 + 80) (-0) (G20 bc.b bv.b))) ⟨rfl,rfl⟩
 ·rw[f11 rfl,f11 (s:=.d (pr c)) rfl];rfl
 refine(a00 (a71 (-0) bd bw.t) ?_ :)
 refine(a00 (a71 (-0) bc.b bw.b) ?_ :)
 refine Wo (i30 (k + 36) _ _ z (Æ0 bc.b0 bw.b0) (a81 (n:=80 + 80) (-0) (G20 bc.b bw.b))) ?_
 refine Wo c1 (ie (E32 (a60 m ps cs pl)) ?_);exact q _ _ _ _ _ _ _ _
theorem Q21{a:Nat}{c:Int × Int}(ha:∀ c∈cs,IsC c)(hC:IsC c):∀ d∈h70 cs a c,IsC d:=λd hd=>by
 rcases C01 hd with rfl | hd
 ·exact hC
 ·exact ha d hd
theorem E52(k:Nat)(g:c60 m ps)(h7:ps.length<=7)(hp:f20 m pl)(hc:cs.length=ps.length)(ha:∀ c∈cs,IsC c){a:Nat}(h:a < ps.length){ns:List Int}{j:Nat}{z:Z}(hz:ZI z){o8 o9 o10 o11 o12 o13 o14:Option S}{Q:O->Z->Prop}{E:Nat->Z->Prop}
  (q:∀ (o7 o8 o9 o10 o11 o12 o13 o14:Option S) z1,Q (.nx (lsE ns j m ps cs pl o7 o8 o9 o10 o11 o12 o13 o14)) z1):WS (P60 T (k + 37 + 2)) true (bTh 1) (lsE ns j m ps cs pl (some (.d (.int a))) o8 o9 o10 o11 o12 o13 o14) z Q E:=by
 have g':=L61 g h7 h;obtain⟨a1,a2⟩:=r32 (l:=ps) (n:=a) (c:=ps[a]) g.len (Ç5 h);have a0:x90 .add (.tup (cutD (ps.map pr) none (some (a:Int)))) (.tup (cutD (ps.map pr) (some (a:Int)) (some ((a:Int) + 1))))=some (.d (.tup (cutD (ps.map pr) none (some (a:Int))++[pr ps[a]]))):=by rw[b82 h];exact a1
 refine(x71 (.d (C10 m (h70 ps a ps[a]))) (lsE ns j m ps cs pl (some (.d (.int a))) (some (.d (C10 m (h70 ps a ps[a])))) o9 o10 o11 o12 o13 o14) ?_ ?_ ?_ :)
 ·refine(a00 a0 ?_ :);refine(a00 a2 ?_ :);exact⟨rfl,rfl⟩
 ·rw[f11 (show k01 (.d (C10 m (h70 ps a ps[a])))=true from by show(true&&(k20 ((h70 ps a ps[a]).map pr)&&true))=true;rw[C00];rfl)];rfl
 refine(A00 (k + 35) hz).imp λs z1 ⟨hz1,c,e,hC⟩=>?_;subst e;obtain⟨b1,b2⟩:=r32 (l:=cs) (n:=a) (c:=c) ∅ ∅
 have hcl:(h70 cs a c).length=(h70 ps a ps[a]).length:=by rw[G50 ∅,G50 ∅,hc]
 have t:=r40 g hp hc ha;have w:=r40 g' hp hcl (Q21 ha hC);have le:=m41 (x:=ps[a]) (Ç5 h) g g' hp hc ha hC;have hl:∀ c,(cs.set a c).length=ps.length:=λc=>by rw[û];exact hc
 obtain⟨d1,d2⟩:=q72 (cs:=cs) (c:=(0,1)) (n:=a) ∅ ∅
 obtain⟨f1,f2⟩:=q72 (cs:=cs) (c:=(1,1)) (n:=a) ∅ ∅
 refine(a00 b1 ?_ :);refine(a00 b2 ?_ :);refine Wo (r50 (k + 28) g' hp hcl (Q21 ha hC) z1) ?_;refine(a00 (l51 w.t0 (w.t (-0)) (Á6 t.b0) (t.b (-0))) ?_ :)
 refine(a00 (l51 t.t0 (t.t (-0)) (Á6 w.b0) (w.b (-0))) ?_ :)
 refine ie (b:=decide (_ < _)) (decide_eq_false (Int.not_lt.mpr le)) ?_;refine(a00 d1 ?_ :);refine(a00 d2 ?_ :);refine Wo (r50 (k + 28) g hp (hl (0,1)) (g71 ha E22) z1) ?_;refine(a00 f1 ?_ :);refine(a00 f2 ?_ :);refine Wo (r50 (k + 28) g hp (hl (1,1)) (g71 ha E12) z1) ?_;exact E42 k g hp hc ha h λo7 o8 o9 o10 o11 o12 o13 o14=>q _ _ _ _ _ _ _ _ z1
theorem E62{l:List (Int × Int)}:H80 .ne (.tup (l.map pr)) (.tup [])=some (!(l.map pr).isEmpty):=by
 show(eqO (.tup (l.map pr)) (.tup [])).map (!·)=_;unfold eqO;rw[a12];cases l <;> rfl
theorem E72(k:Nat)(g:c60 m ps)(h7:ps.length<=7)(hp:f20 m pl)(hc:cs.length=ps.length)(ha:∀ c∈cs,IsC c){ns:List Int}{j:Nat}{z:Z}(hz:ZI z){o7 o8 o9 o10 o11 o12 o13 o14:Option S}{Q:O->Z->Prop}{E:Nat->Z->Prop}
  (q:∀ (o7 o8 o9 o10 o11 o12 o13 o14:Option S) z1,Q (.nx (lsE ns j m ps cs pl o7 o8 o9 o10 o11 o12 o13 o14)) z1):WS (P60 T (k + 37 + 2)) true (bIn 6) (lsE ns j m ps cs pl o7 o8 o9 o10 o11 o12 o13 o14) z Q E:=by
 refine(a00 E62 ?_ :);cases e:ps with
 |nil =>
  subst e;exact q _ _ _ _ _ _ _ _ _
 |cons p r =>
  rw[← e];have hl:(((ps.map pr).length:Nat):Int)=(ps.length:Nat):=by rw[Ç]
  have h1:1<=ps.length:=by rw[e];simp
  refine it (b:=!(ps.map pr).isEmpty) (by rw[e];rfl) ?_
  refine(j70 (k + 36) (((ps.map pr).length:Nat):Int) hz (by rw[hl];omega) (by rw[hl];omega)).imp λs z1 ⟨hz1,a,e1,a1⟩=>?_
  subst e1;exact E52 k g h7 hp hc ha (by rw[hl] at a1;omega) hz1 q
theorem E82(k:Nat)(g:c60 m ps)(h7:ps.length<=7)(hp:f20 m pl)(hc:cs.length=ps.length)(ha:∀ c∈cs,IsC c){ns:List Int}{j:Nat}{z:Z}(hz:ZI z){o6 o7 o8 o9 o10 o11 o12 o13 o14:Option S}{Q:O->Z->Prop}{E:Nat->Z->Prop}
  (q:∀ (o7 o8 o9 o10 o11 o12 o13 o14:Option S) z1,Q (.nx (lsE ns j m ps cs pl o7 o8 o9 o10 o11 o12 o13 o14)) z1):WS (P60 T (k + 37 + 2)) true (bIn 3) [some (.d (.lst (ns.map D.int))),some (.d (.int j)),some .z,some (.d (C10 m ps)),some (.d (.tup (cs.map pr))),some (.d (.tup (pl.map c70))),o6,o7,o8,o9,o10,o11,o12,o13,o14] z Q E:=by
 obtain⟨b0,b1⟩:=l40 ha;have h8:=g.len;have es:e30 (g40 ps.length) (amt (cf cs) ps.length)=b30 cs:=by rw[j90 (e10 h8),C70 hc]
 have c1:=z30 (k + 35) g hc ha (ls:=g40 ps.length) (by rw[es];exact Ë4 _) z
 rw[es,P50 b0] at c1;refine Wo (C21 (k + 25) g hp hc ha z) ?_;refine Wo (g51 (i:=F20) rfl (k + 36) (m:=m) (ts:=ps.map pr) (by rw[Ç];exact h8) z) ?_
 rw[Ç];refine ip (by rw[Ç];exact q00 (Ù (n60 h8) (-0))) (l01 (b32 ps cs) (λx hx=>?_) ?_)
 ·obtain⟨l,hl,rfl⟩:=Ø.mp hx;refine Wo (n70 (k + 28) g hc ha (q20 ((e10 h8).mem_iff.mp hl)) (O50 h8 hl) z) ⟨?_,rfl⟩;rw[b32,g00]
 ·rw[P40];refine Wo c1 ?_;refine Wo (r50 (k + 28) g hp hc ha z) ?_;exact E72 k g h7 hp hc ha hz q
end
abbrev t02(L:Int):Int:=if (if (3:Int) < L then 3 else L) > 1 then(if (3:Int) < L then 3 else L) else 1
theorem r42(k:Nat)(ns:List Int):b60 T (k + 40) p42 [.d (.lst (ns.map D.int))] none=some (.ok (.d (.bl true)) none):=by
 refine W.ok (o30 (k:=k + 37) (ps:=1) (ns:=15) (b:=J21) rfl rfl (-0) ?_)
 have hN:0<=t02 ((ns.map D.int).length:Int)/\t02 ((ns.map D.int).length:Int) < 100000:=by
  unfold t02;split <;> (try split) <;> omega
 refine(a00 (U70 (m:=t02 ((ns.map D.int).length:Int)) hN.1 hN.2) ?_ :);refine M80 (λxs ρ z=>(∀ x∈xs,∃ j:Nat,x=.int j)/\∃ o1 o2 o3 o4 o5 o6 o7 o8 o9 o10 o11 o12 o13 o14:Option S,ρ=[some (.d (.lst (ns.map D.int))),o1,o2,o3,o4,o5,o6,o7,o8,o9,o10,o11,o12,o13,o14]) _ ⟨λx hx=>?_,_,_,_,_,_,_,_,_,_,_,_,_,_,_,rfl⟩ ?_ ?_
 ·obtain⟨i,_,rfl⟩:=Ø.mp hx;exact⟨i,rfl⟩
 ·rintro x r ρ z1 ⟨hx,o1,o2,o3,o4,o5,o6,o7,o8,o9,o10,o11,o12,o13,o14,rfl⟩;obtain⟨j,rfl⟩:=hx x É;obtain⟨sn,sb,hz1,hst⟩:=J41 (k + 35) ns j z1;refine Wo hst ?_;refine(z11 (k + 34) hz1 (-0) (-0)).imp λs z3 ⟨hz3,m,ps,e,g,h7⟩=>?_
  subst e;refine(N70 (k + 34) (m:=m) (ts:=ps.map pr) hz3 (by rw[Ç];exact g.len)).imp λs z4 ⟨hz4,cs,e,hc,ha⟩=>?_
  subst e;rw[Ç] at hc;refine(V10 (k + 35) (t:=.tup (ps.map pr)) g.m1 g.m6 hz4).imp λs z5 ⟨hz5,pl,e,hp⟩=>?_;subst e;refine(E82 k g ∅ hp hc ha hz5 λo7 o8 o9 o10 o11 o12 o13 o14 z6=>?_ :)
  exact⟨λx hx'=>hx x (Å _ hx'),_,_,_,_,_,_,_,_,_,_,_,_,_,_,rfl⟩
 ·rintro ρ z1 ⟨_,o1,o2,o3,o4,o5,o6,o7,o8,o9,o10,o11,o12,o13,o14,rfl⟩;exact⟨rfl,rfl⟩
theorem pure:∀ ns:List Int,ns.length<=63->b60 (tabOf rows) 40 p42 [.d (.lst (ns.map D.int))] none=some (.ok (.d (.bl true)) none):=λns _=>by
 rw[Q72];exact r42 0 ns
open PySem L2 Q
theorem ok:rows.all (c62 (H00 rows) nums cn)=true:=by decide +kernel
theorem bd:p00 rows:=⟨λ_ _ _ _ _ _ us hl=>by obtain⟨_,_,rfl⟩:=us2 hl;rfl,
 λ_ _ _ _ _ _ us hl=>by obtain⟨_,_,rfl⟩:=us2 hl;rfl,
 λ_ _ _ _ _ _ us hl=>by obtain⟨_,rfl⟩:=us1 hl;rfl,
 λ_ _ _ _ _ _ us hl=>by obtain⟨_,_,rfl⟩:=us2 hl;rfl,
 λ_ _ _ _ _ _ us hl=>by obtain⟨_,_,rfl⟩:=us2 hl;rfl,
 λ_ _ _ _ _ _ us hl=>by obtain⟨_,_,rfl⟩:=us2 hl;rfl,
 λ_ _ _ _ _ _ us hl=>by obtain⟨_,rfl⟩:=us1 hl;rfl,
 λ_ _ _ _ _ _ us hl=>by obtain⟨_,rfl⟩:=us1 hl;rfl,
 λ_ _ _ _ _ _ us hl=>by obtain⟨_,_,rfl⟩:=us2 hl;rfl,
 λ_ _ _ _ _ _ us hl=>by obtain⟨_,_,rfl⟩:=us2 hl;rfl,
 λ_ _ _ _ _ _ us hl=>by obtain⟨_,rfl⟩:=us1 hl;rfl,
 λ_ _ _ _ _ _ us hl=>by obtain⟨_,_,rfl⟩:=us2 hl;rfl,
 λ_ _ _ _ _ _ us hl=>by obtain⟨_,_,rfl⟩:=us2 hl;rfl,
 λ_ _ _ _ _ _ us hl=>by obtain⟨_,_,rfl⟩:=us2 hl;rfl,
 λ_ _ _ _ _ _ us hl=>by obtain⟨_,_,rfl⟩:=us2 hl;rfl,
 λ_ _ _ _ _ _ us hl=>by obtain⟨_,_,_,rfl⟩:=us3 hl;rfl,
 λ_ _ _ _ _ _ us hl=>by obtain⟨_,rfl⟩:=us1 hl;rfl,
 λ_ _ _ _ _ _ us hl=>by obtain⟨_,_,rfl⟩:=us2 hl;rfl,
 λ_ _ _ _ _ _ us hl=>by obtain⟨_,_,rfl⟩:=us2 hl;rfl,
 λ_ _ _ _ _ _ us hl=>by obtain⟨_,rfl⟩:=us1 hl;rfl,
 λ_ _ _ _ _ _ us hl=>by obtain⟨_,_,rfl⟩:=us2 hl;rfl,
 λ_ _ _ _ _ _ us hl=>by obtain⟨_,_,_,rfl⟩:=us3 hl;rfl,
 λ_ _ _ _ _ _ us hl=>by obtain⟨_,_,rfl⟩:=us2 hl;rfl,
 λ_ _ _ _ _ _ us hl=>by obtain⟨_,_,rfl⟩:=us2 hl;rfl,
 λ_ _ _ _ _ _ us hl=>by obtain⟨_,rfl⟩:=us1 hl;rfl,
 λ_ _ _ _ _ _ us hl=>by obtain⟨_,_,rfl⟩:=us2 hl;rfl,
 λ_ _ _ _ _ _ us hl=>by obtain⟨_,_,_,rfl⟩:=us3 hl;rfl,
 λ_ _ _ _ _ _ us hl=>by obtain⟨_,_,rfl⟩:=us2 hl;rfl,
 λ_ _ _ _ _ _ us hl=>by obtain⟨_,_,_,rfl⟩:=us3 hl;rfl,
 λ_ _ _ _ _ _ us hl=>by obtain⟨_,_,rfl⟩:=us2 hl;rfl,
 λ_ _ _ _ _ _ us hl=>by obtain⟨_,_,rfl⟩:=us2 hl;rfl,
 λ_ _ _ _ _ _ us hl=>by obtain⟨_,_,rfl⟩:=us2 hl;rfl,
 λ_ _ _ _ _ _ us hl=>by obtain⟨_,_,rfl⟩:=us2 hl;rfl,
 λ_ _ _ _ _ _ us hl=>by obtain⟨_,_,rfl⟩:=us2 hl;rfl,
 λ_ _ _ _ _ _ us hl=>by obtain⟨_,_,rfl⟩:=us2 hl;rfl,
 λ_ _ _ _ _ _ us hl=>by obtain⟨_,rfl⟩:=us1 hl;rfl,
 λ_ _ _ _ _ _ us hl=>by obtain⟨_,_,rfl⟩:=us2 hl;rfl,
 λ_ _ _ _ _ _ us hl=>by obtain⟨_,_,rfl⟩:=us2 hl;rfl,
 λ_ _ _ _ _ _ us hl=>by obtain⟨_,rfl⟩:=us1 hl;rfl,
 λ_ _ _ _ _ _ us hl=>by obtain⟨_,rfl⟩:=us1 hl;rfl,
 λ_ _ _ _ _ _ us hl=>by obtain⟨_,_,_,rfl⟩:=us3 hl;rfl,
 λ_ _ _ _ _ _ us hl=>by obtain⟨_,rfl⟩:=us1 hl;rfl,trivial⟩
def asks:o40:=U10 rows nums cn
def prg:Program:=ù
def vq:Program:=view prg [56]
def loose:List Str:=prg.boundNames.filter λx=>!(x == ("law":Str))
def runL(w:ü)(os:OsState):=(E90 PySem.W.through (PySem.W.stepOk 11 (some (.ref 6))) (PySem.W.stepT (denote treeTable) prg w) 20000 (Y91 w os) (PySem.W.topStub prg)).map (λs =>
   (PySem.W.staticsOk (Í6 prg.main.body) (PySem.W.boot_heap w.params) s.abs.heap&&PySem.W.namesBound prg s.abs.heap&&PySem.W.gensDone s.abs&&PySem.W.laidKept (PySem.W.boot_heap w.params) s.abs.heap,
    PySem.W.openSeen vq loose (Í6 prg.main.body) (λ_=>true) true s.abs,asks.obs s.abs))
def runR(w:ü):=some (true,PySem.W.openGood vq loose,asks.due w)
def _root_.PySem.W.Fast.tw894347274252638336:PySem.Program:=ù
theorem _root_.PySem.W.Fast.te894347274252638336:ù=PySem.W.Fast.tw894347274252638336:=rfl
theorem twins:(λ(_:runL=runL/\runR=runR)=>true) ⟨rfl,rfl⟩=true:=by k_qdec
theorem run_eq:∀ (w:ü) (os:OsState),PySem.W.Fast.tw14075725262101462980 w os=PySem.W.Fast.tw18139657281711212703 w:=λw os=>by kernel_rfl
theorem left:PySem.W.LeftO ù vq loose (λ_=>true) asks.hook.obs asks.hook.val 20000:=Z01 (by kernel_rfl) rfl (λ_=>by kernel_rfl) λw os =>
 (congrFun (congrFun PySem.W.Fast.te14075725262101462980 w) os).trans ((run_eq w os).trans (congrFun PySem.W.Fast.te18139657281711212703 w).symm)
end K3
open PySem PySem.W PyProof.Rows
set_option maxRecDepth 100000 in
set_option maxHeartbeats 0 in
theorem PySem.Challenge.cw_tiechances_k07_whole_shares_holds : PySem.Challenge.rw_tiechances_k07_whole_shares.Holds := by
 w_on;o_law
 refine holds_open (q:=K3.vq) (loose:=K3.loose) (Xt:=λ_=>true) (XP:=λ_ _=>True) (Yf:=K3.asks.hook.obs) (Ya:=K3.asks.hook.val) (YP:=K3.asks.hook.says) K3.left K3.asks.hook.of K3.asks.hook.keeps (λ_ _=>trivial) (λ_ _ _ _ _=>trivial) (by rfl) (by rfl) (by rfl) (λs _=>recFacts_of rfl) rfl (by first | assumption | decide +kernel) (by decide +kernel) ⟨rfl,rfl,rfl,rfl,rfl,by decide +kernel⟩ ?hw ?hc
 case hw=>w_witness2
 case hc=>exact Q.J11 (l:=PySem.Challenge.rw_tiechances_k07_whole_shares) (n:=63) (k:=40) (x:="_law_script") rfl (-0) rfl ⟨rfl,by decide,by decide⟩ (Q.Z51 (k:=37) (iL:=41) K3.ok K3.bd rfl rfl rfl K3.pure)