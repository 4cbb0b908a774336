import PyProof.Rows.All
import Wide.All
import OpenK.AllK
import Wide.FinOn
import Lean
import PyProof.EqAt
import PyProof.EqKinds
import PyProof.TupleCall
import KE.KSortTup
import OpenK.KRaise
import OpenK.KOwn
import PyProof.ExcBaseAll.ValueError
import KE.KIsAll
import PyProof.ExcAttrAll.ValueError
import PyProof.NsDelKeeps
import PyProof.RulesAs
import KE.KTryMore
import KE.KLam
import KE.KNestM
import OpenK.KEqL
import PyProof.Rows.EqDataRows
import PyProof.NeKinds
import PyProof.FactsAll.dict
import PyProof.FactsAll.subtypes
import PyProof.ListRange
import PyProof.TupleOfGen
import PyProof.TupleOfSeq
import KE.KTupSum
import PyProof.Rows.SumAny
import KE.KDictLaws
import KE.KDictOf
import PySem.Challenge.RW_tiechances_k06_whole_good_lots_and_cuts
local macro_rules
|`(∅)=>`(by omega)
|`(-0)=>`(by decide)
local macro_rules
|`(tactic|omega)=>`(tactic|lia)
open PySem renaming wpAny_bind→À,Value→Ä,Shared→Å,Addr→Æ,wpAny_pure→Ç,Expr→Î,wpAny→Ñ,model→Ø,Program→â,bootBuiltins→ì,wpAny_newObj_type→î,Heap→ï,mainGlobals→ô,World→õ,compareOp→ö,starEach→û,Around→ü,Scope→À3,wpAny_field→À7,sizeLine_eq→À8,wpAny_truthy_bool→À9,Paired→Á7,wpAny_callSpecial?_slot→Á8,Builtin→Â0,cLine→Â4,binaryOp→Â6,wpAny_call_entry→Â8,wpAny_holding→Ã1,swappedStores→Ã2,Stmt→Ã8,wpAny_seqItems→Ä5,wpAny_mono→Ä6,IsPair→Ä9,mem_of_lookup→Å6,Env→Æ1,wpAny_typeOf→Æ5,wpAny_setField_rec→Æ6,intKind→Ç0,call_meets→Ç1,IsTupleKey→Ç2,wpAny_passesOwn→Ç4,codeAny_builtin→Ç6,foldedSetIterable→Ç8,assignEach→È3,NameKind→É2,FuncData→É3,wpAny_pyIter_tuple→É6,wpAny_pyIter_list→Ê4,wpAny_rule→Ë6,sysModules→Ë7,sliceBounds→Ì0,importedModules→Ì6,swapsWith→Í9,IsZip→Î6,getItem→Ï5,codeAny→Ï6,wpAny_comprehension_free→Ð0,codeAny_mono→Ñ9,backTo→Ò0,IsRange→Ò2,wpAny_execs_nil→Ò4,wpAny_updateSeq_pair→Ô7,wpAny_loadName_local→Ô8,assign→Õ2,IsPart→Õ4,storedH→Õ6,wpAny_standAt→Ö8,wpAny_onRaise→Ö9,wpAny_attempt→Ø0,plainId_quiet→Ø1,foldedForSure→Ø3,wpAny_Call_Name_kw→Ø6,typeIs_int→Ø7,tupleKind_room_in1→Ø8,pyNext→Ø9,wpAny_sequenceKey→Ú3,wpAny_assign_Name→Ú4,valueAt→Ú5,holding→Ú6,callerA→Ú7,Operator→Û3,tupleKind→Ü5,noFill_tuple_add→Ü6,DictEntry→Ý2,wpAny_of_eq→Ý3,wpAny_ite_false→Ý6,letOwnedTupleGo→Ý7
open Bool renaming and_eq_true→Á,false_ne_true→Ò,not_eq_true'→ú,eq_iff_iff→Å0,or_eq_true→Å5,true_and→Æ2,false_eq_true→È8,false_and→É5,not_eq_true→Ò7,and_true→Ý5
open PySem.W renaming Frag→Â,kas_item→ó,kas_desc→Á9,kas_place→Â9,kas_rev→Æ8,kas_asc→Æ9,boot_heap→È4,excIn→Ì7,kas_descPart→Í6,kas_sort→Î3,kia_tup→Ó6,kia_one→Ó7,codeHdIn→Õ3,tabObj→Ù2,kas_count→Ü7,cellsFrom_some→Ü8
open PySem.Heap renaming get?_push_of_some→Ã,get?_push_size→Ì,lt_size→Ü,size_push→Æ7,IsTuple→Ï9,get?_update_self→Ð8,get?_update_other→Þ2,SameBut→Þ3
open List renaming length_map→È,mem_cons_self→Ë,mem_cons_of_mem→Í,mem_map→Ð,size_toArray→Ó,getElem?_set_ne→Õ,getD_eq_getElem?_getD→Ù,getElem?_eq_getElem→Ú,getElem?_map→Þ,length_cons→ß,getElem?_set_self→à,getElem?_eq_some_iff→ä,mem_cons→å,map_map→æ,mem_append_right→è,mem_of_getElem?→ê,replicate→ë,range→í,length_range→ð,all_eq_true→ø,mem_range→ù,lookup_cons→ÿ,mem_append→À2,length_append→À5,length_set→À6,mem_singleton→Á1,filterMap_cons→Á3,all_eq_true→Á5,not_mem_nil→Â1,range'→Ã0,mem_cons→Ã4,map_cons→Ã5,filter_eq_nil_iff→Ã6,length_take→Ã7,contains_iff_mem→Ã9,getElem?_append_right→Ä0,map_congr_left→Ä1,length_nil→Ä2,all_cons→Ä3,mem_filter→Ä7,map_append→Ä8,replicate_succ→Å7,getElem_mem→Æ0,range_eq_range'→Æ3,pairwise_lt_range→Ç5,isEmpty_iff→Ç9,zip_cons_cons→È5,mem_append_left→É0,filter_map→É1,flatten_cons→É8,contains_iff_mem→Ê2,range'_succ→Ê3,forIn_cons→Ê6,foldl_cons→Ê7,lookup→Ê8,getElem?_append→Ê9,mem_singleton→Ë0,length_drop→Ë2,any_eq_true→Ë3,nodup_cons→Ë4,perm_ext_iff_of_nodup→Ì4,pairwise_cons→Ì5,getElem?_append_left→Í4,getElem?_replicate→Î8,take_of_length_le→Ï8,reverse_cons→Ð3,nil_append→Ð4,filter_congr→Ð5,length_filter_le→Ð6,eraseIdx_sublist→Ð7,mem_iff_getElem→Ñ5,contains_eq_mem→Ñ6,take_length→Ò5,map_id→Ó0,mem_map_of_mem→Ó2,length_reverse→Ó3,getElem?_range→Ó4,mapM_cons→Ó5,forIn_nil→Ó8,Pairwise→Ô0,mem_filterMap→Ô2,length_range'→Ô3,getElem?_take→Ô4,getElem?_drop→Ô5,zip_nil_left→Õ8,append_assoc→Õ9,length→Ù6,find?_cons→Ú1,length_eraseIdx_of_lt→Ü3,drop_eq_getElem_cons→Ý0,pairwise_singleton→Ý9,getElem?_cons_zero→Þ0,length_singleton→Þ5,length_replicate→Þ6,getElem?_eq_none→Þ7
open Nat renaming le_refl→É,le_trans→Ô,lt_of_lt_of_le→Ö,ne_of_lt→Û,lt_irrefl→À4,zero_le→Å2,le_add_right→È2,lt_succ_of_lt→È6,succ_le_succ→É7,le_of_lt→Ì2,lt_of_le_of_lt→Ì9,pow_le_pow_right→Ò1,not_lt_zero→Ò6,ne_of_gt→Ò8,min_eq_left→Ò9,mul_comm→Ö2,le_succ_of_le→Ö3,le_of_eq→Ö4,min_eq_right→Ù4,lt_succ_self→Ù5,le_mul_of_pos_left→Þ4
open Option renaming map_eq_some_iff→Ê,bind_eq_some_iff→Ï,map→Ë9,map_eq_some_iff→Ð9,ne_none_iff_exists'→Ú0,isSome_iff_exists→Ü2
open ForInStep renaming yield→Ý,done→ã
open PySem.Value renaming none→á,ref→þ,type→Á0,bool→Å8,str→Î4,notImplemented→Ñ0,isInt→Ñ1
open PySem.Str renaming ofString→ç
open PySem.Challenge renaming pw_tiechances_k06_whole_good_lots_and_cuts→é
open PySem.NameKind renaming free→ñ,cell→Ä4
open PyProof.Rows renaming slot_tuple_getitem→ò,callWith_type1→À0,SortSt→Á6,seqObj→Â5,IntsAre→É4,SortKind→Ì1,IsTup→Ì3,listItems_at→Í5,AllBare→Ò3,slicePart_none→Ô9,oneType'→Õ0,envOfC→Õ1,pendingOf→Õ7,listUpdate_at→Ø2,assignInOrder_cons→Ù0,args_tuple_getitem→Ù1,get?_update_seq→Ý8
open Array renaming getElem?_toList→ý,extract→Å3,getElem?_eq_getElem→È0,length_toList→È7,getD_eq_getD_getElem?→Ë8,toArray_toList→Í2,map_extract→Î2,size→Ô1,map_append→Ö7
open Ne renaming symm→À1
open PySem.Obj renaming mapSeq→Á2
open Option.some renaming inj→Á4,injEq→Ñ3
open PySem.Builtin.Range renaming rangeSize→Â2,small→Î7
open PySem.AutoSeq1 renaming wpAny_loadPart'→Â3,wpAny_loadPart'→Ã3,idx_int→Ô6,sub_tuple_tuple→Ú2
open Int renaming toNat_natCast→Â7,eq_of_mul_eq_mul_right→Í1,emod_eq_of_lt→Î1,eq_ofNat_of_zero_le→Ï3
open False renaming elim→Å1
open PySem.Builtin.Tuple renaming tupleExact→Å4
open PyProof.Rows.KeyOrd renaming kle_refl→Å9,kle_of_klt→Í0,kle_trans→Ö0
open PySem.Heap.SameBut renaming update→Æ4
open PySem.Around renaming under_plainId→Ç3
open PySem.Builtin.Slice renaming slicePlaces→Ç7,sliceAdjust→Ë1,sliceApplied→Ð2
open PySem.F renaming slot_tuple_iterator_next→È1,args_tuple_add_2→Ì8,entry_tuple_add→Í7,slot_tuple_add→Î5,slot_tuple_lt→Ï1,slot_list_getattribute→Ï4,called_tuple→Ð1,slot_zip_next→Ñ7,slot_int_rmul→Ñ8,slot_dict_setdefault→Ö1,args_tuple_mul_2→Ö5,excBase_ValueError→Ù3,entry_tuple_mul→Ù8,type_list_append→Û0,slot_list_append→Û1,slot_dict_values→Û2,slot_tuple_mul→Û4,plain_tuple_new→Û7,plain_list_iadd→Û8,plainAttrs_list→Û9,plainAttrs_dict→Ü0,args_tuple_lt_2→Ü1,entry_tuple_lt→Ü9,args_tuple_iterator_next_1→Ý1,entry_tuple_iterator_next→Ý4
open True renaming intro→È9
open PyProof.Rows.SortSt renaming mk'→É9
open PySem.Builtin.List renaming listExtendWith→Ê0,listTooLong→Ë5
open Array.Perm renaming refl→Ê1
open PySem.Builtin.SmallTypes renaming ownedTupleIsFree→Ê5
open PySem.Paired renaming length→Í3
open List.Pairwise renaming filter→Í8
open Sum renaming inl→Î0,inr→Ó1
open PySem.W.KasT renaming ret→Î9
open PySem.Heap.IsSliceOf renaming new→Ï0
open PySem.PyData renaming depthAll→Ï2,eqv→Ù9
open PySem.Manifest renaming find?→Ï7
open PySem.W.Looks renaming ld→Ñ2,of_pure→Ø4,here→Ú9
open Prod.mk renaming injEq→Ñ4
open PySem.SeqAt renaming EqAt→Ó9
open PySem.Calls renaming spliced_nil→Õ5,Name_function_global→Û5,callWith_builtin→Þ1,evalArgs_plain→Þ8
open PySem.Builtin.Dict renaming updateFrom→Ö6
open Classical renaming byContradiction→Ø5
open List.Perm renaming eq_of_pairwise→Ù7
open PySem.Walks renaming list→Ú8
open PySem.Shared renaming TypeIs→Û6
open PySem.Builtin.Int renaming intBits→Ü4
local macro_rules
|`(command|def $i:declId $s:optDeclSig $v)=>`(noncomputable def $i:declId $s:optDeclSig $v)
|`(command|abbrev $i:declId $s:optDeclSig $v)=>`(noncomputable abbrev $i:declId $s:optDeclSig $v)
open PySem.W (methodObj hideAll hideAll_get of_hideAll fnOf kia_one kitx_none kitx_bool kitx_int kitx_str kitx_tuple kitx_list kitx_dict kitAny kia_tup mg_of view)
open PySem.Heap (lt_size size_push)
open List (range filterMap_cons mem_cons_self mem_cons_of_mem mem_append_left mem_append_right append_nil of_mem_zip replicate length_take mem_of_getElem? length_append length_map size_toArray length_drop map_nil map_cons length_set reverse_cons replicate_succ flatten_cons foldl foldl_cons lookup_cons forIn_cons toArray forIn_nil mem_cons not_mem_nil range' length_nil nil_append length_range zip_cons_cons length_cons map_congr_left mem_append mem_singleton take_length getElem_mem map_id mapM_cons any_eq_true all_map all_eq_true all_cons range_eq_range' drop_length contains_iff_mem nodup_nil pairwise_lt_range mem_filter mem_range map_id' filter_map filter_congr)
open Array (length_toList toList getD size_map map_extract push extract setIfInBounds toArray_toList)
open Nat (ne_of_gt le_succ succ_le_succ zero_le le_add_right not_lt_zero ble beq lt_succ_of_lt zero_add min_eq_left rec)
open PyProof.Rows (lt_int)
open Int (toNat_natCast gcd emod_nonneg emod_lt_of_pos natAbs_mul mul_pos)
open PySem.Builtin.Slice (sliceAdjust slicePlaces sliceApplied sliceFields)
open PySem.Builtin.Tuple (tupleItemsOf tupleExact tupleCompareSizes tupleTooMany tupleIsExact)
open Bool (and_eq_true false_eq_true not_eq_true' or_eq_true not_eq_true)
open Option (getD_none map_some map_eq_some_iff)
open PySem.Builtin.SmallTypes (nextOf ownedTupleIsFree ownedTupleHandOut)
set_option bootstrap.genMatcherCode false
set_option compiler.extract_closed false
set_option genInjectivity false
set_option genSizeOf false
set_option autoImplicit true
set_option relaxedAutoImplicit true
set_option Elab.async false
set_option linter.all false
set_option maxRecDepth 100000
namespace L2
open PySem PySem.Spec PyProof.Rows
abbrev Key:=Sum Int Str
def W21:Key->Ä->Bool
 |.inl k,v=>Ñ1 k v|.inr x,v=>Ä.isStrOf x v
def A42(w:õ):Key->Int
 |.inl k=>hashInt k|.inr x=>hashStr w x
theorem d00:∀ {k:Key}{v:Ä},W21 k v=true->(∃ i t,k=Î0 i/\v=Ä.int i t)∨(∃ x t,k=Ó1 x/\v=Î4 x t)
 |.inl i,v,h=>by
  obtain⟨t,e⟩:=Ä.isInt_shape (k:=i) (v:=v) h;exact .inl ⟨i,t,rfl,e⟩
 |.inr x,v,h=>by
  obtain⟨t,e⟩:=Ä.isStrOf_shape (x:=x) (v:=v) h;exact .inr ⟨x,t,rfl,e⟩
theorem W31(a b:Int):decide ((Î0 a:Key)=Î0 b)=(a == b):=by
 by_cases e:a=b
 ·subst e;simp
 ·have h:¬ (Î0 a:Key)=Î0 b:=λq=>e (Î0.inj q);rw[decide_eq_false h];exact(beq_eq_false_iff_ne.mpr e).symm
theorem W41(a b:Str):decide ((Ó1 a:Key)=Ó1 b)=decide (a=b):=by
 by_cases e:a=b
 ·subst e;simp
 ·have h:¬ (Ó1 a:Key)=Ó1 b:=λq=>e (Ó1.inj q);rw[decide_eq_false h,decide_eq_false e]
theorem W51(a:Int)(b:Str):decide ((Î0 a:Key)=Ó1 b)=false:=decide_eq_false (λq=>nomatch q)
theorem W61(a:Str)(b:Int):decide ((Ó1 a:Key)=Î0 b)=false:=decide_eq_false (λq=>nomatch q)
def g00(prog:â)(w:õ):PySem.KeyKind prog w Key where
 is:=W21
 hash:=A42 w
 inj:=λv a b ha hb=>by
  rcases d00 ha with ⟨i,t,rfl,rfl⟩ | ⟨x,t,rfl,rfl⟩
  ·rcases d00 hb with ⟨j,u,rfl,e⟩ | ⟨y,u,rfl,e⟩
   ·injection e with e1 _;rw[e1]
   ·exact nomatch e
  ·rcases d00 hb with ⟨j,u,rfl,e⟩ | ⟨y,u,rfl,e⟩
   ·exact nomatch e
   ·injection e with e1 _;rw[e1]
 byValue:=λk v h=>by
  rcases d00 h with ⟨i,t,rfl,rfl⟩ | ⟨x,t,rfl,rfl⟩ <;> rfl
 pyHash:=λhv h=>by
  rcases d00 hv with ⟨i,t,rfl,rfl⟩ | ⟨x,t,rfl,rfl⟩
  ·exact wpAny_pyHash_int h
  ·exact wpAny_pyHash_str h
 eqBool:=λhu hv h=>by
  rcases d00 hu with ⟨i,t,rfl,rfl⟩ | ⟨x,t,rfl,rfl⟩
  ·rcases d00 hv with ⟨j,u,rfl,rfl⟩ | ⟨y,u,rfl,rfl⟩
   ·rw[W31] at h;exact wpAny_eqBool_int h
   ·rw[W51] at h;exact Ó9.int_str i t y u _ _ _ _ h
  ·rcases d00 hv with ⟨j,u,rfl,rfl⟩ | ⟨y,u,rfl,rfl⟩
   ·rw[W61] at h;exact Ó9.str_int x t j u _ _ _ _ h
   ·rw[W41] at h;exact wpAny_eqBool_str h
 «strs»:=λk x t v h=>by
  rcases d00 h with ⟨i,u,rfl,e⟩ | ⟨y,u,rfl,e⟩
  ·exact nomatch e
  ·injection e with e1 _;subst e1;cases v <;> rfl
inductive V where
 |non | bl (b:Bool) | int (i:Int) | str (x:Str) | byt (b:Array UInt8) | flt (b:UInt64) | ref (a:Addr) | ty (n:String)
 deriving DecidableEq
def RelV:V->Ä->Prop
 |.non,u=>u=á|.bl b,u=>u=Å8 b|.int i,u=>∃ t,u=Ä.int i t|.str x,u=>∃ t,u=Î4 x t|.byt b,u=>∃ t,u=Ä.bytes b t|.flt b,u=>∃ t,u=Ä.float b t|.ref a,u=>u=þ a|.ty n,u=>u=Á0 n
abbrev Vals:List V->List Ä->Prop:=Á7 RelV
theorem Vals.length{xs:List V}{us:List Ä}(r:Vals xs us):xs.length=us.length:=Í3 r
theorem Vals.get:∀ {xs:List V}{us:List Ä}{i:Nat}{x:V},Vals xs us->xs[i]?=some x->∃ u,us[i]?=some u/\RelV x u
 |_,_,_,_,.nil,e=>by simp at e|_,_,0,_,.cons r _,e=>by simp at e;subst e;exact⟨_,rfl,r⟩
 |_,_,i + 1,x,.cons _ t,e=>by
  obtain⟨u,h1,h2⟩:=Vals.get (i:=i) (x:=x) t (by simpa using e)
  exact⟨u,by simpa using h1,h2⟩
theorem Vals.set{x:V}{u:Ä}(r:RelV x u):∀ {xs:List V}{us:List Ä} (i:Nat),Vals xs us->Vals (xs.set i x) (us.set i u)
 |_,_,_,.nil=>.nil|_,_,0,.cons _ t=>.cons r t|_,_,i + 1,.cons q t=>.cons q (Vals.set r i t)
theorem Vals.append:∀ {xs ys:List V}{us ws:List Ä},Vals xs us->Vals ys ws->Vals (xs++ys) (us++ws)
 |_,_,_,_,.nil,s=>s|_,_,_,_,.cons r t,s=>.cons r (Vals.append t s)
theorem Vals.take:∀ {xs:List V}{us:List Ä} (n:Nat),Vals xs us->Vals (xs.take n) (us.take n)
 |_,_,0,_=>.nil|_,_,_ + 1,.nil=>.nil|_,_,n + 1,.cons r t=>.cons r (Vals.take n t)
theorem Vals.drop:∀ {xs:List V}{us:List Ä} (n:Nat),Vals xs us->Vals (xs.drop n) (us.drop n)
 |_,_,0,r=>r|_,_,_ + 1,.nil=>.nil|_,_,n + 1,.cons _ t=>Vals.drop n t
def w92:Option V->Option Ä->Prop
 |some v,some u=>RelV v u|none,none=>True|_,_=>False
def KV{κ:Type}:List (κ × V)->List (κ × Ä)->Prop:=Á7 λ(p:κ × V) (q:κ × Ä)=>p.1=q.1/\RelV p.2 q.2
def kV:Key->V
 |.inl i=>.int i|.inr x=>.str x
inductive HO where
 |lst (xs:List V)
 |tup (xs:List V)
 |dK (kvs:List (Key × V)) | dT (kvs:List (List Key × V))
 |set (S:Int->Bool) (n:Nat)
 |ins (C dx:Addr) (fs:List (Str × V))
 |own (x:Addr)
 |xd (fs:List (Str × V))
 |met (f x:Addr)
 |rng (lo hi:Int)
 |frz (o:Obj) (u:HO)
 |tbl (ps:Array Value)
 |ext (φ:Heap->Prop)
abbrev Hp:=Æ->Option HO
def upd(H:Hp)(a:Æ)(o:HO):Hp:=λb=>if b=a then some o else H b
theorem b10{H:Hp}{a:Æ}{o:HO}:upd H a o a=some o:=by unfold upd;rw[if_pos rfl]
theorem a40{H:Hp}{a b:Æ}{o:HO}(h:b≠a):upd H a o b=H b:=by unfold upd;rw[if_neg h]
theorem b00{H:Hp}{a b:Æ}{o:HO}(h:H a=some o)(h':H b=none):a≠b:=by
 intro e;subst e;rw[h] at h';cases h'
section
variable (P:â) (w:õ)
def h40(H:Hp)(h:ï)(a:Æ):HO->Prop
 |.lst xs=>xs.length<=sizeLine/\∃ (its:List Ä) (n:Nat),Vals xs its/\h.get? a=some { cls:=.type "list",data:=.seq its.toArray n }|.tup xs=>xs.length<=sizeLine/\∃ its:List Ä,Vals xs its/\Ì3 h a its.toArray|.dK kvs=>kvs.length<=sizeLine/\(a == Ë7)=false/\∃ vs,KV kvs vs/\h.DictOf (g00 P w) a vs
 |.dT kvs=>kvs.length<=sizeLine/\(a == Ë7)=false/\∃ xs:List (List Key × Æ × Ä),
   Á7 (λ(p:List Key × V) (q:List Key × Æ × Ä)=>p.1=q.1/\H q.2.1=some (.tup (p.1.map kV))/\RelV p.2 q.2.2) kvs xs /\
   ∃ o es ep,h.get? a=some o/\o.ExactDict/\o.data=.dict es ep/\es.toList=xs.map (entryOfKey (Ü5 (g00 P w)))/\(xs.map (·.1)).Nodup
 |.set S n=>h.SetOf (Ç0 P w) a S n
 |.ins C dx fs=>H dx=some (.own a)/\fs.length<=1000/\dx≠a/\h.get? a=some (PySem.W.instObj C dx) /\
   ∃ mA,h.Ns1 dx mA/\(∀ f,w92 (fs.lookup f) (mA f))/\PySem.Within mA (fs.map (·.1))
 |.own _=>∃ o,h.get? a=some o|.xd fs=>∃ mA,h.Ns1 a mA/\∀ f,w92 (fs.lookup f) (mA f)|.rng lo hi=>∃ t u v,h.get? a=some { cls:=.type "range",data:=.fields #[.int lo t,.int hi u,.int 1 v] }|.frz o u=>h.get? a=some o/\h40 H h a u|.tbl ps=>h.get? a=some { cls:=.none,data:=.fields ps }|.met f x=>h.get? a=some (methodObj (.ref f) (.ref x))|.ext φ=>φ h/\(∃ o,h.get? a=some o)/\∀ h1 h2:ï,φ h1->(∀ o,h1.get? a=some o->h2.get? a=some o)->φ h2
def HOk(H:Hp)(h:ï):Prop:=∀ a o,H a=some o->h40 P w H h a o
end
section
variable {P:â}{w:õ}{H H':Hp}{h h':ï}{a:Æ}{o:HO}
theorem h40.lt(x:h40 P w H h a o):a < h.objs.size:=by
 cases o with
 |lst xs=>obtain⟨_,_,_,_,e⟩:=x;exact Ü e
 |tup xs=>obtain⟨_,_,_,p⟩:=x;exact p.lt
 |dK kvs=>obtain⟨_,_,_,_,o,_,_,e,_⟩:=x;exact Ü e
 |dT kvs=>obtain⟨_,_,_,_,o,_,_,e,_⟩:=x;exact Ü e
 |set S n=>obtain⟨o,_,_,_,e,_⟩:=x;exact Ü e
 |ins C dx fs=>obtain⟨_,_,_,e,_⟩:=x;exact Ü e
 |own y=>obtain⟨_,e⟩:=x;exact Ü e
 |xd fs=>obtain⟨_,⟨_,_,_,e,_⟩,_⟩:=x;exact Ü e
 |rng lo hi=>obtain⟨_,_,_,e⟩:=x;exact Ü e
 |frz ob u=>obtain⟨e,_⟩:=x;exact Ü e
 |tbl ps=>exact Ü (show h.get? a=some _ from x)|met f y=>exact Ü (show h.get? a=some _ from x)|ext φ=>obtain⟨_,⟨_,e⟩,_⟩:=x;exact Ü e
theorem Á7.V51{α β:Type}{F G:α->β->Prop}:∀ {l₁:List α}{l₂:List β},Á7 F l₁ l₂->(∀ a b,F a b->G a b)->Á7 G l₁ l₂
 |_,_,.nil,_=>.nil|_,_,.cons r t,f=>.cons (f _ _ r) (Á7.V51 t f)
theorem h40.w31(x:h40 P w H h a o)(k:∀ b u,(b=a∨H b=some (.own a))->h.get? b=some u->h'.get? b=some u)
  (ho:∀ b,H b=some (.own a)->H' b=some (.own a)) (ht:∀ b xs,H b=some (.tup xs)->H' b=some (.tup xs)):h40 P w H' h' a o:=by
 induction o with
 |lst xs=>obtain⟨z,its,n,r,e⟩:=x;exact⟨z,its,n,r,k _ _ (.inl rfl) e⟩
 |tup xs=>obtain⟨z,its,r,ob,e,c⟩:=x;exact⟨z,its,r,ob,k _ _ (.inl rfl) e,c⟩
 |dK kvs=>obtain⟨z,y,vs,r,ob,es,ep,e,c⟩:=x;exact⟨z,y,vs,r,ob,es,ep,k _ _ (.inl rfl) e,c⟩
 |dT kvs =>
  obtain⟨z,y,xs,r,ob,es,ep,e,c⟩:=x;exact⟨z,y,xs,Á7.V51 r λp q z=>⟨z.1,ht _ _ z.2.1,z.2.2⟩,ob,es,ep,k _ _ (.inl rfl) e,c⟩
 |set S n=>obtain⟨ob,es,ep,t,e,c⟩:=x;exact⟨ob,es,ep,t,k _ _ (.inl rfl) e,c⟩
 |ins C dx fs =>
  obtain⟨d,z,ne,e,mA,⟨od,es,ep,e2,c⟩,r⟩:=x;exact⟨ho _ d,z,ne,k _ _ (.inl rfl) e,mA,⟨od,es,ep,k _ _ (.inr d) e2,c⟩,r⟩
 |own y=>obtain⟨ob,e⟩:=x;exact⟨ob,k _ _ (.inl rfl) e⟩
 |xd fs=>obtain⟨mA,⟨od,es,ep,e,c⟩,r⟩:=x;exact⟨mA,⟨od,es,ep,k _ _ (.inl rfl) e,c⟩,r⟩
 |rng lo hi=>obtain⟨t,u,v,e⟩:=x;exact⟨t,u,v,k _ _ (.inl rfl) e⟩
 |frz ob u ih=>obtain⟨e,q⟩:=x;exact⟨k _ _ (.inl rfl) e,ih q⟩
 |tbl ps =>
  have e:h.get? a=some { cls:=.none,data:=.fields ps }:=x;show h'.get? a=some { cls:=.none,data:=.fields ps };exact k a _ (.inl rfl) e
 |met f y =>
  have e:h.get? a=some (methodObj (.ref f) (.ref y)):=x;show h'.get? a=some (methodObj (.ref f) (.ref y));exact k a _ (.inl rfl) e
 |ext φ=>obtain⟨p,⟨o,e⟩,st⟩:=x;exact⟨st _ _ p λo q=>k _ _ (.inl rfl) q,⟨o,k _ _ (.inl rfl) e⟩,st⟩
theorem HOk.lt(x:HOk P w H h)(e:H a=some o):a < h.objs.size:=(x a o e).lt
theorem HOk.fresh(x:HOk P w H h)(e:h.objs.size<=a):H a=none:=by
 cases q:H a with
 |none=>rfl|some u=>exact absurd (Ö (x.lt q) e) (À4 _)
theorem HOk.kept(x:HOk P w H h)(k:∀ b u,h.get? b=some u->h'.get? b=some u):HOk P w H h':=λa o e =>
 (x a o e).w31 (λb u _ q=>k b u q) (λ_ q=>q) λ_ _ q=>q
theorem HOk.laid(x:HOk P w H h)(k:∀ b u,h.get? b=some u->h'.get? b=some u)(hp:h.objs.size<=a)(new:h40 P w (upd H a o) h' a o):HOk P w (upd H a o) h':=λb u e=>by
 have hn:=x.fresh hp;by_cases hb:b=a
 ·subst hb;rw[b10] at e;cases e;exact new
 ·rw[a40 hb] at e;exact(x b u e).w31 (λc v _ q=>k c v q) (λc q=>by rw[a40 (b00 q hn)];exact q) λc xs q=>by rw[a40 (b00 q hn)];exact q
end
def Rd(H:Hp)(a:Æ)(u:HO):Prop:=H a=some u∨∃ o,H a=some (.frz o u)
theorem Rd.ok{P:â}{w:õ}{H:Hp}{h:ï}{a:Æ}{u:HO}(r:Rd H a u)(x:HOk P w H h):h40 P w H h a u:=by
 rcases r with r | ⟨o,r⟩
 ·exact x a u r
 ·obtain⟨_,q⟩:=x a _ r;exact q
def Mut:Option HO->Prop
 |some (.lst _)=>True|some (.dK _)=>True|some (.dT _)=>True|some (.set _ _)=>True|some (.ins _ _ _)=>True|some (.ext _)=>True|_=>False
section
variable {P:â}{w:õ}{H:Hp}{h h':ï}{x e:Æ}{o':HO}
theorem HOk.write(ok:HOk P w H h)(mu:Mut (H x))(he:e=x∨H e=some (.own x))(k:∀ b u,b≠e->h.get? b=some u->h'.get? b=some u)(heo:∃ u,h'.get? e=some u)
  (new:h40 P w (upd H x o') h' x o'):HOk P w (upd H x o') h':=λb u q=>by
 have nown:∀ c y,H c=some (.own y)->c≠x:=λc y r z=>by subst z;rw[r] at mu;exact mu
 have ntup:∀ c xs,H c=some (.tup xs)->c≠x:=λc xs r z=>by subst z;rw[r] at mu;exact mu
 by_cases hb:b=x
 ·subst hb;rw[b10] at q;cases q;exact new
 ·rw[a40 hb] at q;by_cases hbe:b=e
  ·have q':H b=some (.own x):=by
    rcases he with z | z
    ·exact absurd (hbe.trans z) hb
    ·rw[hbe];exact z
   rw[q] at q';cases q';obtain⟨v,hv⟩:=heo;exact⟨v,by rw[hbe];exact hv⟩
  ·refine(ok b u q).w31 (λc v hc r=>k c v ?_ r) (λc r=>by rw[a40 (nown c b r)];exact r) λc xs r=>by rw[a40 (ntup c xs r)];exact r
   rcases hc with rfl | hc
   ·exact hbe
   ·rintro rfl;rcases he with z | z
    ·exact nown c b hc z
    ·rw[hc] at z;cases z;exact hb rfl
end
structure Un(fs ex:List Addr)(H H':Hp)(h h':Heap):Prop where
 keep:∀ b o,h.get? b=some o->H b=none->b ∉ fs->b ∉ ex->h'.get? b=some o
 slot:∀ b o,h.get? b=some o->H b=none->b∈fs->b ∉ ex->∃ sl,h'.get? b=some { o with slots:=sl }
 free:∀ b o,h.get? b=some o->H b=none->b ∉ ex->H' b=none
 there:∀ b o,h.get? b=some o->b ∉ ex->∃ o',h'.get? b=some o'
 tups:∀ b xs,H b=some (.tup xs)->H' b=some (.tup xs)
 frzs:∀ b o u,H b=some (.frz o u)->H' b=some (.frz o u)
 tbls:∀ b ps,H b=some (.tbl ps)->∃ more,H' b=some (.tbl (ps++more))
section
variable {fs fs' ex ex':List Æ}{H H1 H2:Hp}{h h1 h2 h':ï}{a x e:Æ}{o:HO}
theorem Un.any(u:Un fs ex H H1 h h1){b:Æ}{ob:Obj}(q:h.get? b=some ob)(n:H b=none)(hx:b ∉ ex):∃ sl,h1.get? b=some { ob with slots:=sl }:=by
 by_cases hb:b∈fs
 ·exact u.slot b ob q n hb hx
 ·exact⟨ob.slots,u.keep b ob q n hb hx⟩
theorem Un.trans(a:Un fs ex H H1 h h1)(b:Un fs ex H1 H2 h1 h2):Un fs ex H H2 h h2 where
 keep:=λc ob q n hc hx=>b.keep c ob (a.keep c ob q n hc hx) (a.free c ob q n hx) hc hx
 slot:=λc ob q n hc hx=>by
  obtain⟨sl,e1⟩:=a.slot c ob q n hc hx;obtain⟨sl',e2⟩:=b.slot c _ e1 (a.free c ob q n hx) hc hx;exact⟨sl',e2⟩
 free:=λc ob q n hx=>by
  obtain⟨o',e1⟩:=a.there c ob q hx;exact b.free c o' e1 (a.free c ob q n hx) hx
 there:=λc ob q hx=>by
  obtain⟨o',e1⟩:=a.there c ob q hx;exact b.there c o' e1 hx
 tups:=λc xs q=>b.tups c xs (a.tups c xs q)
 frzs:=λc ob xs q=>b.frzs c ob xs (a.frzs c ob xs q)
 tbls:=λc ps q=>by
  obtain⟨m1,e1⟩:=a.tbls c ps q;obtain⟨m2,e2⟩:=b.tbls c _ e1;exact⟨m1++m2,by rw[e2,Array.append_assoc]⟩
theorem Un.kept(k:∀ b u,h.get? b=some u->h'.get? b=some u):Un fs ex H H h h' :=
 ⟨λb ob q _ _ _=>k b ob q,λb ob q _ _ _=>⟨ob.slots,k b ob q⟩,λ_ _ _ n _=>n,λb ob q _=>⟨ob,k b ob q⟩,λ_ _ q=>q,λ_ _ _ q=>q,λ_ ps q=>⟨#[],by rw[q];simp⟩⟩
theorem Un.refl:Un fs ex H H h h:=Un.kept λ_ _ q=>q
theorem Un.laid(k:∀ b u,h.get? b=some u->h'.get? b=some u)(hp:h.objs.size<=a)(hn:H a=none):Un fs ex H (upd H a o) h h' where
 keep:=λb u q _ _ _=>k b u q
 slot:=λb u q _ _ _=>⟨u.slots,k b u q⟩
 free:=λb u q n _=>by rw[a40 (Û (Ö (Ü q) hp))];exact n
 there:=λb u q _=>⟨u,k b u q⟩
 tups:=λb xs q=>by rw[a40 (b00 q hn)];exact q
 frzs:=λb u xs q=>by rw[a40 (b00 q hn)];exact q
 tbls:=λb ps q=>⟨#[],by rw[a40 (b00 q hn),q];simp⟩
theorem Un.write(mu:Mut (H x))(he:e=x∨H e=some (.own x))(k:∀ b u,b≠e->h.get? b=some u->h'.get? b=some u)(heo:∃ u,h'.get? e=some u):Un fs ex H (upd H x o) h h':=by
 have hx:∀ b,H b=none->b≠x:=λb n z=>by subst z;rw[n] at mu;exact mu
 have hb:∀ b,H b=none->b≠e:=λb n z=>by
  subst z;rcases he with r | r
  ·exact hx b n r
  ·rw[n] at r;cases r
 have hm:∀ b u,H b=some u->¬ Mut (some u)->b≠x:=λb u q nm z=>by subst z;rw[q] at mu;exact nm mu
 refine⟨λb u q n _ _=>k b u (hb b n) q,λb u q n _ _=>⟨u.slots,k b u (hb b n) q⟩,λb u q n _=>by rw[a40 (hx b n)];exact n,λb u q _=>?_,
  λb xs q=>by rw[a40 (hm b _ q λz=>z)];exact q,λb u xs q=>by rw[a40 (hm b _ q λz=>z)];exact q,λb ps q=>⟨#[],by rw[a40 (hm b _ q λz=>z),q];simp⟩⟩
 by_cases hbe:b=e
 ·subst hbe;exact heo
 ·exact⟨u,k b u hbe q⟩
theorem Un.mono(u:Un fs ex H H1 h h1)(hs:∀ b∈fs,b∈fs')(hx:∀ b∈ex,b∈ex'):Un fs' ex' H H1 h h1 :=
 ⟨λb ob q n hb he=>u.keep b ob q n (λz=>hb (hs b z)) λz=>he (hx b z),λ_ _ q n _ he=>u.any q n λz=>he (hx _ z),λb ob q n he=>u.free b ob q n λz=>he (hx b z),λb ob q he=>u.there b ob q λz=>he (hx b z),u.tups,u.frzs,u.tbls⟩
end
def trk(h:ï)(H:Hp):List Addr:=(í h.objs.size).filter λa=>(H a).isSome
def w41(h:ï)(H:Hp):Heap:=hideAll h (trk h H)
theorem f81(h:ï)(H:Hp):(w41 h H).objs.size=h.objs.size:=PySem.W.hideAll_size _ _
theorem E60{h:ï}{H:Hp}{b:Æ}{o:Obj}(e:h.get? b=some o)(n:H b=none):(w41 h H).get? b=some o :=
 hideAll_get _ e λhm=>by
  have q:(H b).isSome=true:=(Ä7.mp hm).2;rw[n] at q;simp at q
theorem J91{h:ï}{H:Hp}{b:Æ}{o:Obj}(e:(w41 h H).get? b=some o):h.get? b=some o/\H b=none:=by
 have e':h.get? b=some o:=of_hideAll (trk h H) e;refine⟨e',?_⟩;cases q:H b with
 |none=>rfl
 |some x =>
  have hm:b∈trk h H:=Ä7.mpr ⟨ù.mpr (Ü e'),by simp[q]⟩
  have z:(w41 h H).get? b=none:=PySem.W.hideAll_none (trk h H) hm;rw[z] at e;cases e
structure Mod(K:PySem.W.Frag)(mg:Str->Option Value)(base:Heap):Prop where
 kin:K.In base
 glob:base.Ns mainGlobals mg
 blt:∃ mb,base.Ns builtinsNs mb/\∀ x:Str,x≠"__name__"->mb x=bootBuiltins x
 nolimit:base.NoLimit
structure Cx where
 prog:Program
 w:World
 K:PySem.W.Frag
 mg:Str->Option Value
 base:Heap
 A:Around
 N:List Str
 s₀:Shared
 H₀:Hp
 env:Env
 outer:List Env
 stack:List Env
 ex:List Addr
 fn:Str->Bool
 calm:Bool
 pn:List (Addr × Obj)
 xe:Value->Shared->Prop
def frs(l:List Env):List Addr:=l.filterMap (·.frame)
abbrev Cx.fs(X:Cx):List Addr:=frs X.outer
def Vis(sc:À3)(x:Str):Prop:=sc.names.lookup x=some .local∨sc.names.lookup x=some .cell∨sc.names.lookup x=some .free
def Loc(sc:À3)(x:Str):Prop:=sc.names.lookup x=some .local∨sc.names.lookup x=some .cell
def Look(env:Env)(h:ï)(m:Str->Option Ä)(x:Str)(u:Ä):Prop :=
 (env.kindOf x=some .local/\m x=some u)∨((env.kindOf x=some .cell∨env.kindOf x=some .free)/\∃ c,env.cells.lookup x=some c/\h.IsCell c (some u))
structure Cx.Ok(X:Cx):Prop where
 mod:Mod X.K X.mg X.base
 kind:X.env.scope.kind=.function
 glob:X.env.globals=mainGlobals
 blt:X.env.builtins=builtinsNs
 above:X.s₀.heap.objs.size<=X.env.locals
 inj:∀ x y c,X.env.cells.lookup x=some c->X.env.cells.lookup y=some c->x=y
 has:∀ x,(X.env.kindOf x=some .cell∨X.env.kindOf x=some .free)->∃ c,X.env.cells.lookup x=some c
 cab:∀ x c,X.fn x=true->X.env.cells.lookup x=some c->X.s₀.heap.objs.size<=c
 hd:X.calm=true->X.A.handled=none
 frames:X.A.frames=some X.stack
 stk:X.stack=X.outer∨(X.stack=X.env::X.outer/\X.env.frame=some X.env.locals)
 exf:∀ b∈X.ex,b≠X.env.locals/\∀ x c,X.env.cells.lookup x=some c->c≠b
 bs:∀ b o,X.base.get? b=some o->X.s₀.heap.get? b=some o/\X.H₀ b=none
 bsz:X.base.objs.size<=X.s₀.heap.objs.size
 noex:∀ b o,X.base.get? b=some o->b ∉ X.ex
 exfs:∀ b∈X.ex,b ∉ X.fs
 v81:X.s₀.heap.FunFrames X.base X.outer
 frf:∀ b∈X.fs,X.H₀ b=none
structure Inv(X:Cx)(pins:List (Addr × Obj))(σ:List (Option V))(H:Hp)(s:Shared):Prop where
 ok:X.Ok
 os:s.os=X.s₀.os
 bare:AllBare s.gens
 base:Un X.fs X.ex X.H₀ H X.s₀.heap s.heap
 loc:∃ m,s.heap.Ns X.env.locals m/\∀ (i:Nat) (x:Str) (v:V),X.N[i]?=some x->σ[i]?=some (some v)->Vis X.env.scope x->∃ u,RelV v u/\Look X.env s.heap m x u
 cell:∀ x c,X.env.cells.lookup x=some c->∃ v,s.heap.IsCell c v
 free:H X.env.locals=none
 freeC:∀ x c,X.env.cells.lookup x=some c->H c=none
 pin:∀ p∈X.pn++pins,s.heap.get? p.1=some p.2/\H p.1=none/\p.1≠X.env.locals/\p.1 ∉ X.fs/\∀ v,p.2.data≠.cell v
 hok:HOk X.prog X.w H s.heap
 len:σ.length=X.N.length
section
variable {X:Cx}{pins:List (Æ × Obj)}{σ:List (Option V)}{H H':Hp}{s:Å}{h':ï}
theorem Cx.Ok.A52(ok:X.Ok){b:Æ}{o:Obj}(e:X.base.get? b=some o):b ∉ X.fs:=λhb=>by
 have:=(ok.v81.mem hb).1;rw[e] at this;cases this
theorem Inv.bs(I:Inv X pins σ H s):∀ b o,X.base.get? b=some o->s.heap.get? b=some o/\H b=none:=λb o e =>
 ⟨I.base.keep b o (I.ok.bs b o e).1 (I.ok.bs b o e).2 (I.ok.A52 e) (I.ok.noex b o e),I.base.free b o (I.ok.bs b o e).1 (I.ok.bs b o e).2 (I.ok.noex b o e)⟩
theorem Inv.bk(I:Inv X pins σ H s):∀ b o,X.base.get? b=some o->s.heap.get? b=some o:=λb o e=>(I.bs b o e).1
theorem Inv.mod(I:Inv X pins σ H s):Mod X.K X.mg X.base:=I.ok.mod
theorem Inv.kIn(I:Inv X pins σ H s):X.K.In s.heap:=I.ok.mod.kin.keeps I.bk
theorem Inv.lt(I:Inv X pins σ H s):X.env.locals < s.heap.objs.size:=let ⟨_,hn,_⟩:=I.loc;hn.lt
theorem Inv.sz(I:Inv X pins σ H s):X.s₀.heap.objs.size<=s.heap.objs.size:=Ô I.ok.above (Ì2 I.lt)
theorem Inv.A62(I:Inv X pins σ H s){a:Æ}(h:s.heap.objs.size<=a):a ∉ X.fs:=λhb=>by
 obtain⟨_,o,ho,_⟩:=I.ok.v81.mem hb;exact absurd (Ö (Ü ho) (Ô I.sz h)) (À4 _)
theorem Inv.cne(I:Inv X pins σ H s):∀ x c,X.env.cells.lookup x=some c->c≠X.env.locals:=λx c e z=>by
 obtain⟨v,o,ho,hd⟩:=I.cell x c e;obtain⟨m,⟨o',es,ep,ho',hd',_⟩,_⟩:=I.loc;rw[z,ho'] at ho;cases ho;rw[hd'] at hd;cases hd
theorem Inv.v81(I:Inv X pins σ H s):s.heap.FunFrames X.base X.outer:=by
 have all:∀ (l:List Env),(∀ b∈frs l,b∈X.fs)->X.s₀.heap.FunFrames X.base l->s.heap.FunFrames X.base l:=by
  intro l
  induction l with
  |nil=>intro _ _;trivial
  |cons env r ih =>
   intro hs hl;obtain⟨hk,⟨L,o,hf,hn,ho,hd⟩,hr⟩:=hl;have hL:L∈X.fs:=hs L (by unfold frs;rw[Á3,hf];exact Ë)
   obtain⟨sl,e⟩:=I.base.slot L o ho (I.ok.frf L hL) hL λz=>I.ok.exfs L z hL;exact⟨hk,⟨L,_,hf,hn,e,hd⟩,ih (λb hb=>hs b (by unfold frs;rw[Á3,hf];exact Í _ hb)) hr⟩
 exact all X.outer (λ_ hb=>hb) I.ok.v81
theorem Inv.stack(I:Inv X pins σ H s):s.heap.FunFrames X.base X.stack:=by
 rcases I.ok.stk with e | ⟨e,hf⟩
 ·rw[e];exact I.v81
 ·rw[e];obtain⟨m,hn,_⟩:=I.loc;refine .cons (by rw[I.ok.kind];decide) hf hn ?_ I.v81
  exact ï.get?_none_of_le (Ô I.ok.bsz I.ok.above)
theorem Inv.f91(I:Inv X pins σ H s):∀ b∈frs X.stack,b∈X.env.locals::X.fs:=λb hb=>by
 rcases I.ok.stk with e | ⟨e,hf⟩
 ·rw[e] at hb;exact Í _ hb
 ·rw[e] at hb;unfold frs at hb;rw[Á3,hf] at hb;exact hb
theorem Inv.Q40(I:Inv X pins σ H s):∀ b∈frs X.stack,H b=none:=λb hb=>by
 rcases å.mp (I.f91 b hb) with e | hb
 ·rw[e];exact I.free
 ·obtain⟨_,o,ho,_⟩:=I.ok.v81.mem hb;exact I.base.free b o ho (I.ok.frf b hb) λz=>I.ok.exfs b z hb
theorem Inv.step{g':Array GenState}{t':Nat}{d':Drawn}{ch:List Æ}(I:Inv X pins σ H s)
  (hch:∀ b∈ch,(b∈X.ex∨X.s₀.heap.objs.size<=b)/\b≠X.env.locals/\(∀ x c,X.env.cells.lookup x=some c->c≠b)/\∀ p∈X.pn++pins,p.1≠b)
  (keep:∀ b o,b≠X.env.locals->b ∉ X.fs->b ∉ ch->s.heap.get? b=some o->H b=none->h'.get? b=some o)
  (slot:∀ b o,b≠X.env.locals->b∈X.fs->b ∉ ch->s.heap.get? b=some o->H b=none->∃ sl,h'.get? b=some { o with slots:=sl }) (free:∀ b o,b ∉ ch->s.heap.get? b=some o->H b=none->H' b=none)
  (there:∀ b o,b ∉ ch->s.heap.get? b=some o->∃ o',h'.get? b=some o')
  (tups:∀ b xs,H b=some (.tup xs)->H' b=some (.tup xs)) (frzs:∀ b o u,H b=some (.frz o u)->H' b=some (.frz o u)) (tbls:∀ b ps,H b=some (.tbl ps)->∃ more,H' b=some (.tbl (ps++more)))
  (ns:∀ m,s.heap.Ns X.env.locals m->h'.Ns X.env.locals m) (hok:HOk X.prog X.w H' h') (hg:Ò3 g') :
  Inv X pins σ H' { s with heap:=h',gens:=g',drawn:=d',toks:=t' }:=by
 have neL:∀ b o,X.s₀.heap.get? b=some o->b≠X.env.locals:=λb o e=>Û (Ö (Ü e) I.ok.above);have neC:∀ b o,X.s₀.heap.get? b=some o->b ∉ X.ex->b ∉ ch:=λb o e hx hb=>by
  rcases (hch b hb).1 with z | z
  ·exact hx z
  ·exact absurd (Ö (Ü e) z) (À4 _)
 have cellK:∀ x c,X.env.cells.lookup x=some c->∀ v,s.heap.IsCell c v->h'.IsCell c v:=λx c e v ⟨o,ho,hd⟩=>by
  have nch:c ∉ ch:=λz=>(hch c z).2.2.1 x c e rfl;by_cases hc:c∈X.fs
  ·obtain⟨sl,q⟩:=slot c o (I.cne x c e) hc nch ho (I.freeC x c e);exact⟨_,q,hd⟩
  ·exact⟨o,keep c o (I.cne x c e) hc nch ho (I.freeC x c e),hd⟩
 refine⟨I.ok,I.os,hg,⟨λb o e n hb hx=>?_,λb o e n hb hx=>?_,λb o e n hx=>?_,λb o e hx=>?_,λb xs e=>tups b xs (I.base.tups b xs e),λb o xs e=>frzs b o xs (I.base.frzs b o xs e),λb ps e=>?_⟩,?_,λx c e=>?_,?_,λx c e=>?_,λp hp=>?_,hok,I.len⟩
 ·exact keep b o (neL b o e) hb (neC b o e hx) (I.base.keep b o e n hb hx) (I.base.free b o e n hx)
 ·obtain⟨sl,e1⟩:=I.base.slot b o e n hb hx;obtain⟨sl',e2⟩:=slot b _ (neL b o e) hb (neC b o e hx) e1 (I.base.free b o e n hx);exact⟨sl',e2⟩
 ·obtain⟨o',e1⟩:=I.base.there b o e hx;exact free b o' (neC b o e hx) e1 (I.base.free b o e n hx)
 ·obtain⟨o',e1⟩:=I.base.there b o e hx;exact there b o' (neC b o e hx) e1
 ·obtain⟨m1,e1⟩:=I.base.tbls b ps e;obtain⟨m2,e2⟩:=tbls b _ e1;exact⟨m1++m2,by rw[e2,Array.append_assoc]⟩
 ·obtain⟨m,hn,hl⟩:=I.loc;refine⟨m,ns m hn,λi x v e1 e2 e3=>?_⟩;obtain⟨u,r,l⟩:=hl i x v e1 e2 e3;refine⟨u,r,?_⟩;rcases l with l | ⟨k,c,e,z⟩
  ·exact .inl l
  ·exact .inr ⟨k,c,e,cellK x c e _ z⟩
 ·obtain⟨v,z⟩:=I.cell x c e;exact⟨v,cellK x c e v z⟩
 ·obtain⟨m,⟨o,_,_,ho,_⟩,_⟩:=I.loc;exact free _ o (λz=>(hch _ z).2.1 rfl) ho I.free
 ·obtain⟨v,o,ho,hd⟩:=I.cell x c e;exact free c o (λz=>(hch c z).2.2.1 x c e rfl) ho (I.freeC x c e)
 ·obtain⟨e,n,ne,nf,d⟩:=I.pin p hp;have nch:p.1 ∉ ch:=λz=>(hch p.1 z).2.2.2 p hp rfl;exact⟨keep p.1 p.2 ne nf nch e n,free p.1 p.2 nch e n,ne,nf,d⟩
theorem Inv.un{t':Nat}(I:Inv X pins σ H s)(u:Un X.fs [] H H' s.heap h')(hok:HOk X.prog X.w H' h'):Inv X pins σ H' { s with heap:=h',toks:=t' }:=by
 obtain⟨m,⟨o,es,ep,ho,r⟩,_⟩:=id I.loc;obtain⟨sl,hL⟩:=u.any ho I.free (by simp)
 exact I.step (g':=s.gens) (d':=s.drawn) (ch:=[]) (λ_ z=>nomatch z) (λb o _ hb _ e n=>u.keep b o e n hb (by simp)) (λb o _ hb _ e n=>u.slot b o e n hb (by simp)) (λb o _ e n=>u.free b o e n (by simp)) (λb o _ e=>u.there b o e (by simp)) u.tups u.frzs u.tbls (λm' hm=>by
  obtain⟨o',es',ep',ho',r'⟩:=hm;rw[ho] at ho';cases ho';exact⟨_,es',ep',hL,r'⟩) hok I.bare
theorem Inv.call{g':Array GenState}{t':Nat}{d':Drawn}{ch:List Æ}(I:Inv X pins σ H s)(u:Un (frs X.stack) ch H H' s.heap h')(hok:HOk X.prog X.w H' h')(hg:Ò3 g')
  (hch:∀ b∈ch,(b∈X.ex∨X.s₀.heap.objs.size<=b)/\b≠X.env.locals/\(∀ x c,X.env.cells.lookup x=some c->c≠b)/\∀ p∈X.pn++pins,p.1≠b) :
  Inv X pins σ H' { s with heap:=h',gens:=g',drawn:=d',toks:=t' }:=by
 obtain⟨m,⟨o,es,ep,ho,r⟩,_⟩:=id I.loc;obtain⟨sl,hL⟩:=u.any ho I.free λz=>(hch _ z).2.1 rfl;exact I.step (ch:=ch) hch (λb o hL hb hc e n=>u.keep b o e n (λz=>(å.mp (I.f91 b z)).elim hL hb) hc) (λb o _ _ hc e n=>u.any e n hc) (λb o hc e n=>u.free b o e n hc) (λb o hc e=>u.there b o e hc) u.tups u.frzs u.tbls (λm' hm=>by
  obtain⟨o',es',ep',ho',r'⟩:=hm;rw[ho] at ho';cases ho';exact⟨_,es',ep',hL,r'⟩) hok hg
theorem Inv.turned{t':Nat}{it:Æ}(I:Inv X pins σ H s)(k:∀ b o,b≠it->s.heap.get? b=some o->h'.get? b=some o)(hn:H it=none)(hL:it≠X.env.locals)
  (h1:it∈X.ex∨X.s₀.heap.objs.size<=it) (h2:∀ x c,X.env.cells.lookup x=some c->c≠it) (h3:∀ p∈X.pn++pins,p.1≠it):Inv X pins σ H { s with heap:=h',toks:=t' }:=by
 have nit:∀ b u,H b=some u->b≠it:=λb u e z=>by rw[z,hn] at e;cases e
 refine I.step (g':=s.gens) (d':=s.drawn) (ch:=[it]) (λb hb=>?_) (λb o _ _ hc e _=>k b o (λz=>hc (by simp[z])) e) (λb o _ _ hc e _=>⟨o.slots,k b o (λz=>hc (by simp[z])) e⟩) (λ_ _ _ _ n=>n)
  (λb o hc e=>⟨o,k b o (λz=>hc (by simp[z])) e⟩) (λ_ _ e=>e) (λ_ _ _ e=>e) (λb ps e=>⟨#[],by rw[e];simp⟩) (λm hm=>?_) (λb u e=>?_) I.bare
 ·have e:b=it:=by simpa using hb
  subst e;exact⟨h1,hL,h2,h3⟩
 ·obtain⟨o,es,ep,ho,r⟩:=hm;exact⟨o,es,ep,k _ o (À1 hL) ho,r⟩
 ·refine(I.hok b u e).w31 (λc v hc q=>k c v ?_ q) (λ_ q=>q) λ_ _ q=>q;rcases hc with z | z
  ·rw[z];exact nit b u e
  ·exact nit c _ z
theorem Inv.tok(I:Inv X pins σ H s)(t:Nat):Inv X pins σ H { s with toks:=t }:=I.un (h':=s.heap) (t':=t) Un.refl I.hok
theorem Inv.kept{t':Nat}(I:Inv X pins σ H s)(k:∀ b u,s.heap.get? b=some u->h'.get? b=some u):Inv X pins σ H { s with heap:=h',toks:=t' }:=I.un (Un.kept k) (I.hok.kept k)
theorem Inv.laid{a:Æ}{o:HO}{t':Nat}(I:Inv X pins σ H s)(k:∀ b u,s.heap.get? b=some u->h'.get? b=some u)(hp:s.heap.objs.size<=a)(new:h40 X.prog X.w (upd H a o) h' a o) :
  Inv X pins σ (upd H a o) { s with heap:=h',toks:=t' }:=I.un (Un.laid k hp (I.hok.fresh hp)) (I.hok.laid k hp new)
theorem Inv.write{x e:Æ}{o:HO}{t':Nat}(I:Inv X pins σ H s)(mu:Mut (H x))(he:e=x∨H e=some (.own x))(k:∀ b u,b≠e->s.heap.get? b=some u->h'.get? b=some u)(heo:∃ u,h'.get? e=some u)
  (new:h40 X.prog X.w (upd H x o) h' x o):Inv X pins σ (upd H x o) { s with heap:=h',toks:=t' }:=I.un (Un.write mu he k heo) (I.hok.write mu he k heo new)
theorem Inv.y80{pins':List (Æ × Obj)}(I:Inv X pins σ H s)(h:∀ p∈pins',s.heap.get? p.1=some p.2/\H p.1=none/\p.1≠X.env.locals/\p.1 ∉ X.fs/\∀ v,p.2.data≠.cell v):Inv X pins' σ H s :=
 ⟨I.ok,I.os,I.bare,I.base,I.loc,I.cell,I.free,I.freeC,λp hp=>(À2.mp hp).elim (λz=>I.pin p (É0 _ z)) (h p),I.hok,I.len⟩
theorem V40{N:List Str}(hN:N.Nodup){i j:Nat}{x:Str}(a:N[i]?=some x)(b:N[j]?=some x):i=j:=by
 obtain⟨h1,e1⟩:=ä.mp a;obtain⟨h2,e2⟩:=ä.mp b;exact(List.getElem_inj hN).mp (e1.trans e2.symm)
theorem K00{M:Model}{A:ü}{E:Ä->Å->Prop}{i:Nat}{x:Str}{v:V}{u:Ä}{Q:Unit->Å->Prop}(I:Inv X pins σ H s)(hN:X.N.Nodup)(hi:X.N[i]?=some x)(hx:Loc X.env.scope x)(r:RelV v u)
  (h:∀ s',Inv X pins (σ.set i (some v)) H s'->(∃ a,Þ3 a s.heap s'.heap/\(a=X.env.locals∨X.env.cells.lookup x=some a))->Q () s') (hf:X.fn x=true∨X.env.scope.names.lookup x=some .local:=by first | exact .inl rfl | exact .inr rfl | assumption):Ñ M A (storeName X.env x u) Q E s:=by
 obtain⟨m,hn,hl⟩:=id I.loc;have hcls:(X.env.scope.kind == .class || (X.env.scope.kind == .module&&X.env.locals != X.env.globals))=false:=by rw[I.ok.kind];rfl
 have hiσ:i < σ.length:=by rw[I.len];exact(ä.mp hi).1
 have cne:=I.cne;have tracked:∀ {a:Æ}{h':ï},(∃ o,s.heap.get? a=some o/\H a=none)->Þ3 a s.heap h'->HOk X.prog X.w H h':=λ{a h'} ha hs b ob e=>by
  obtain⟨_,_,hfree⟩:=ha;refine(I.hok b ob e).w31 (λc w' hc q=>(hs.2 c ?_).trans q) (λ_ q=>q) λ_ _ q=>q;rintro rfl;rcases hc with rfl | hc
  ·rw[hfree] at e;cases e
  ·rw[hfree] at hc;cases hc
 rcases hx with hk | hk
 ·refine wpAny_storeName_local hk hn (λh' hn' hs=>?_) hcls;obtain⟨oL,_,_,hoL,_⟩:=id hn;refine h _ ⟨I.ok,I.os,I.bare,⟨λb o e n hb hx=>?_,λb o e n hb hx=>?_,I.base.free,λb o e hx=>?_,I.base.tups,I.base.frzs,I.base.tbls⟩,⟨_,hn',λj y v' e1 e2 e3=>?_⟩,λy c e=>?_,I.free,I.freeC,λp hp=>?_,tracked ⟨oL,hoL,I.free⟩ hs,by simpa using I.len⟩ ⟨_,hs,.inl rfl⟩
  ·exact(hs.2 b (Û (Ö (Ü e) I.ok.above))).trans (I.base.keep b o e n hb hx)
  ·obtain⟨sl,e1⟩:=I.base.slot b o e n hb hx;exact⟨sl,(hs.2 b (Û (Ö (Ü e) I.ok.above))).trans e1⟩
  ·obtain⟨o',e1⟩:=I.base.there b o e hx;exact⟨o',(hs.2 b (Û (Ö (Ü e) I.ok.above))).trans e1⟩
  ·by_cases hj:j=i
   ·subst hj;rw[hi] at e1;cases e1;rw[à hiσ] at e2;cases e2;exact⟨u,r,.inl ⟨hk,by simp⟩⟩
   ·rw[Õ (À1 hj)] at e2;obtain⟨u',r',q⟩:=hl j y v' e1 e2 e3;refine⟨u',r',?_⟩;rcases q with ⟨k,e⟩ | ⟨k,c,e,z⟩
    ·refine .inl ⟨k,?_⟩;have:y≠x:=λe=>hj (V40 hN e1 (e ▸ hi));simp[this,e]
    ·exact .inr ⟨k,c,e,z.sameBut hs (cne y c e)⟩
  ·obtain⟨w',z⟩:=I.cell y c e;exact⟨w',z.sameBut hs (cne y c e)⟩
  ·obtain⟨e,n,ne,nf,d⟩:=I.pin p hp;exact⟨(hs.2 p.1 ne).trans e,n,ne,nf,d⟩
 ·have hfn:X.fn x=true:=by
   rcases hf with z | z
   ·exact z
   ·rw[z] at hk;cases hk
  obtain⟨c,hc⟩:=I.ok.has x (.inl hk);obtain⟨w',z⟩:=I.cell x c hc;refine wpAny_storeName_cell I.ok.kind hk hc z (λh' hc' hs=>?_);obtain⟨oc,hoc,hocd⟩:=id z;refine h { s with heap:=h' } ⟨I.ok,I.os,I.bare,⟨λb o e n hb hx=>?_,λb o e n hb hx=>?_,I.base.free,λb o e hx=>?_,I.base.tups,I.base.frzs,I.base.tbls⟩,⟨m,hn.sameBut hs (À1 (cne x c hc)),λj y v' e1 e2 e3=>?_⟩,λy c' e=>?_,I.free,I.freeC,λp hp=>?_,tracked ⟨oc,hoc,I.freeC x c hc⟩ hs,by simpa using I.len⟩ ⟨c,hs,.inr hc⟩
  ·exact(hs.2 b (Û (Ö (Ü e) (I.ok.cab x c hfn hc)))).trans (I.base.keep b o e n hb hx)
  ·obtain⟨sl,e1⟩:=I.base.slot b o e n hb hx;exact⟨sl,(hs.2 b (Û (Ö (Ü e) (I.ok.cab x c hfn hc)))).trans e1⟩
  ·obtain⟨o',e1⟩:=I.base.there b o e hx;exact⟨o',(hs.2 b (Û (Ö (Ü e) (I.ok.cab x c hfn hc)))).trans e1⟩
  ·by_cases hj:j=i
   ·subst hj;rw[hi] at e1;cases e1;rw[à hiσ] at e2;cases e2;exact⟨u,r,.inr ⟨.inl hk,c,hc,hc'⟩⟩
   ·rw[Õ (À1 hj)] at e2;obtain⟨u',r',q⟩:=hl j y v' e1 e2 e3;refine⟨u',r',?_⟩;rcases q with q | ⟨k,c',e,z'⟩
    ·exact .inl q
    ·refine .inr ⟨k,c',e,z'.sameBut hs ?_⟩;rintro rfl;exact hj (V40 hN e1 (I.ok.inj _ _ _ e hc ▸ hi))
  ·by_cases hcc:c'=c
   ·subst hcc;exact⟨_,hc'⟩
   ·obtain⟨w2,z2⟩:=I.cell y c' e;exact⟨w2,z2.sameBut hs hcc⟩
  ·obtain⟨e,n,ne,nf,d⟩:=I.pin p hp;refine⟨(hs.2 p.1 ?_).trans e,n,ne,nf,d⟩;intro q;rw[q,hoc] at e;have q':oc=p.2:=Á4 e;exact d w' (by rw[← q'];exact hocd)
theorem r30{M:Model}{A:ü}{E:Ä->Å->Prop}{i:Nat}{x:Str}{v:V}{u:Ä}{Q:Unit->Å->Prop}(I:Inv X pins σ H s)(hN:X.N.Nodup)(hi:X.N[i]?=some x)(hx:Loc X.env.scope x)(r:RelV v u)
  (h:∀ s',Inv X pins (σ.set i (some v)) H s'->Q () s') (hf:X.fn x=true∨X.env.scope.names.lookup x=some .local:=by first | exact .inl rfl | exact .inr rfl | assumption):Ñ M A (storeName X.env x u) Q E s :=
 K00 I hN hi hx r (λs' I' _=>h s' I') hf
theorem Inv.l52{s':Å}{ch:List Æ}(I:Inv X pins σ H s)(ho:s'.os=s.os)(u:Un (frs X.stack) ch H H' s.heap s'.heap)(hok:HOk X.prog X.w H' s'.heap)(hg:Ò3 s'.gens)
  (hch:∀ b∈ch,(b∈X.ex∨X.s₀.heap.objs.size<=b)/\b≠X.env.locals/\(∀ x c,X.env.cells.lookup x=some c->c≠b)/\∀ p∈X.pn++pins,p.1≠b):Inv X pins σ H' s':=by
 obtain⟨h',g',d',t',o'⟩:=s';have e:o'=s.os:=ho;subst e;exact I.call (g':=g') (t':=t') (d':=d') u hok hg hch
end
abbrev XK:=Ä->Option Æ->Hp->Prop
abbrev St:=List (Option V)
abbrev VK:=V->Hp->Prop
abbrev TE:=St->Hp->VK->Prop
abbrev TT:=St->Hp->(Bool->Hp->Prop)->Prop
abbrev TA:=St->Hp->(List V->Hp->Prop)->Prop
structure Ends where
 nx:St->Hp->Prop
 rt:VK
 bk:St->Hp->Prop:=λ_ _=>False
 ct:St->Hp->Prop:=λ_ _=>False
abbrev TS:=Ends->St->Hp->Prop
def EP(X:Cx)(pins:List (Æ × Obj))(σ:St)(Q:VK)(u:Ä)(s':Å):Prop:=∃ v H',Inv X pins σ H' s'/\RelV v u/\Q v H'
def TP(X:Cx)(pins:List (Æ × Obj))(σ:St)(Q:Bool->Hp->Prop)(b:Bool)(s':Å):Prop:=∃ H',Inv X pins σ H' s'/\Q b H'
def AP(X:Cx)(pins:List (Æ × Obj))(σ:St)(Q:List V->Hp->Prop)(us:List Ä)(s':Å):Prop:=∃ vs H',Inv X pins σ H' s'/\Vals vs us/\Q vs H'
def SP(X:Cx)(pins:List (Æ × Obj))(D:Ends)(f:Flow)(s':Å):Prop :=
 match f with
 |.next=>∃ σ' H',Inv X pins σ' H' s'/\D.nx σ' H'
 |.brk=>∃ σ' H',Inv X pins σ' H' s'/\D.bk σ' H'|.cont=>∃ σ' H',Inv X pins σ' H' s'/\D.ct σ' H'|.ret u=>∃ v σ' H',Inv X pins σ' H' s'/\RelV v u/\D.rt v H'
def PE(X:Cx)(e:Î)(t:TE):Prop :=
 ∀ (pins:List (Æ × Obj)) (s:Å) (σ:St) (H:Hp) (Q:VK),Inv X pins σ H s->t σ H Q->Ñ (Ø X.prog X.w) X.A (eval e X.env) (EP X pins σ Q) X.xe s
def PT(X:Cx)(e:Î)(t:TT):Prop :=
 ∀ (pins:List (Æ × Obj)) (s:Å) (σ:St) (H:Hp) (Q:Bool->Hp->Prop),Inv X pins σ H s->t σ H Q->Ñ (Ø X.prog X.w) X.A (isTrue e X.env (eval e X.env)) (TP X pins σ Q) X.xe s
def PW(X:Cx)(e:Î)(t:TT):Prop :=
 ∀ (whole:Sem Ä) (pins:List (Æ × Obj)) (s:Å) (σ:St) (H:Hp) (Q:Bool->Hp->Prop),Inv X pins σ H s->t σ H Q->Ñ (Ø X.prog X.w) X.A (isTrue e X.env whole) (TP X pins σ Q) X.xe s
theorem PW.pt{X:Cx}{e:Î}{t:TT}(h:PW X e t):PT X e t:=h _
def PA(X:Cx)(es:List Î)(t:TA):Prop :=
 ∀ (pos:Pos) (pins:List (Æ × Obj)) (s:Å) (σ:St) (H:Hp) (Q:List V->Hp->Prop),Inv X pins σ H s->t σ H Q->Ñ (Ø X.prog X.w) X.A (spliced (Ò0 pos (û es X.env))) (AP X pins σ Q) X.xe s
def PS(X:Cx)(st:Ã8)(t:TS):Prop :=
 ∀ (pins:List (Æ × Obj)) (s:Å) (σ:St) (H:Hp) (D:Ends),Inv X pins σ H s->t D σ H->Ñ (Ø X.prog X.w) X.A (exec st X.env) (SP X pins D) X.xe s
def PSs(X:Cx)(st:List Ã8)(t:TS):Prop :=
 ∀ (pins:List (Æ × Obj)) (s:Å) (σ:St) (H:Hp) (D:Ends),Inv X pins σ H s->t D σ H->Ñ (Ø X.prog X.w) X.A (execs st X.env) (SP X pins D) X.xe s
theorem thn{α:Type}{t:Sem α}{Q Q':α->Å->Prop}{M:Model}{A:ü}{E:Ä->Å->Prop}{s:Å}(h:Ñ M A t Q E s)(hQ:∀ a s,Q a s->Q' a s):Ñ M A t Q' E s:=Ä6 h hQ λ_ _ x=>x
section
variable {X:Cx}
def G11(i:Nat):TE:=λσ H Q=>∃ v,σ[i]?=some (some v)/\Q v H
def tC(v:V):TE:=λ_ H Q=>Q v H
theorem l60{i:Nat}{x:Str}{pos:Pos}(hN:X.N[i]?=some x)(hv:Vis X.env.scope x)(hd:(x == ("__debug__":Str))=false:=by decide)(hcd:(x == ("__classdict__":Str))=false:=by decide):PE X (.Name x pos) (G11 i):=by
 intro pins s σ H Q I h;obtain⟨v,e,h⟩:=h;obtain⟨m,hn,hl⟩:=I.loc;obtain⟨u,r,l⟩:=hl i x v hN e hv;have fin:EP X pins σ Q u s:=⟨v,H,I,r,h⟩;rcases l with ⟨hk,hm⟩ | ⟨hk,c,hc,hcell⟩
 ·exact wpAny_Name (Ô8 I.ok.kind hk hn hm fin) hd
 ·rcases hk with hk | hk
  ·exact wpAny_Name (wpAny_loadName_cell I.ok.kind hk hc hcell fin) hd
  ·exact wpAny_Name (wpAny_loadName_free I.ok.kind hk hc hcell fin hcd) hd
theorem g01{i j pos}:PE X (.Constant (.int i) j pos) (tC (.int i)):=λ_ _ _ H _ I h=>wpAny_Constant_int ⟨.int i,H,I.tok _,⟨_,rfl⟩,h⟩
theorem l62{b j pos}:PE X (.Constant (.bool b) j pos) (tC (.bl b)):=λ_ _ _ H _ I h=>Constant_bool ⟨.bl b,H,I,rfl,h⟩
theorem W71{j pos}:PE X (.Constant .none j pos) (tC .non):=λ_ _ _ H _ I h=>Constant_none ⟨.non,H,I,rfl,h⟩
theorem G21{x j pos}:PE X (.Constant (.str x) j pos) (tC (.str x)):=λ_ _ _ H _ I h=>Calls.Constant_str ⟨.str x,H,I.tok _,⟨_,rfl⟩,h⟩
def Gl(X:Cx)(x:Str):Prop:=X.env.kindOf x=some .globalImplicit
theorem Q50{E:Ä->Å->Prop}{pins:List (Æ × Obj)}{s:Å}{σ:St}{H:Hp}{x:Str}{u:Ä}{pos:Pos}{Q:Ä->Å->Prop}(I:Inv X pins σ H s)(hg:Gl X x)(hm:X.mg x=some u)(h:Q u s)
  (hd:(x == ("__debug__":Str))=false:=by decide):Ñ (Ø X.prog X.w) X.A (eval (.Name x pos) X.env) Q E s :=
 Û5 I.ok.kind hg (Calls.loadGlobal_global (by rw[I.ok.glob];exact I.mod.glob.keeps I.bk) hm h) hd
theorem r40{E:Ä->Å->Prop}{pins:List (Æ × Obj)}{s:Å}{σ:St}{H:Hp}{x:Str}{u:Ä}{pos:Pos}{Q:Ä->Å->Prop}(I:Inv X pins σ H s)(hg:Gl X x)(hm:X.mg x=none)(hv:ì x=some u)(h:Q u s)
  (hn:x≠"__name__":=by decide) (hd:(x == ("__debug__":Str))=false:=by decide):Ñ (Ø X.prog X.w) X.A (eval (.Name x pos) X.env) Q E s:=by
 obtain⟨mb,h1,h2⟩:=I.mod.blt;exact Û5 I.ok.kind hg (Calls.loadGlobal_builtin (by rw[I.ok.glob];exact I.mod.glob.keeps I.bk) hm (by rw[I.ok.blt];exact h1.keeps I.bk) ((h2 x hn).trans hv) h) hd
theorem K01{x:Str}{v:V}{u:Ä}{pos:Pos}(hg:Gl X x)(hm:X.mg x=some u)(r:RelV v u)(hd:(x == ("__debug__":Str))=false:=by decide):PE X (.Name x pos) (tC v) :=
 λ_ _ _ H _ I h=>Q50 I hg hm ⟨v,H,I,r,h⟩ hd
theorem Q60{x:Str}{v:V}{u:Ä}{pos:Pos}(hg:Gl X x)(hm:X.mg x=none)(hv:ì x=some u)(r:RelV v u)(hn:x≠"__name__":=by decide)(hd:(x == ("__debug__":Str))=false:=by decide):PE X (.Name x pos) (tC v) :=
 λ_ _ _ H _ I h=>r40 I hg hm hv ⟨v,H,I,r,h⟩ hn hd
variable {a b:Î}{ta tb:TE}{pos:Pos}
def tB(t:TE):TT:=λσ H Q=>t σ H λx H1=>∃ c,x=.bl c/\Q c H1
theorem W81{e:Î}{t:TE}(h:PE X e t)(he:∀ whole,isTrue e X.env whole=(do let v ← whole;standAt e.pos;Ú6 [v] (truthy v)):=by intro _;rfl):PT X e (tB t):=by
 intro pins s σ H Q I hw;refine isTrue_plain (thn (h pins s σ H _ I hw) λv s1 ⟨x,H1,I1,r1,q1⟩=>?_) (he _);obtain⟨d,rfl,q⟩:=q1;cases r1;exact À9 ⟨H1,I1,q⟩
variable {tA tB':TT}{rest:List Î}
def A72(t u:TT):TT:=λσ H Q=>t σ H λc H1=>if c=true then u σ H1 Q else Q false H1
def tOr(t u:TT):TT:=λσ H Q=>t σ H λc H1=>if c=true then Q true H1 else u σ H1 Q
def A82(t:TT):TT:=λσ H Q=>t σ H λc H1=>Q (!c) H1
theorem K11(ha:PT X a tA):PW X (.BoolOp .And [a] pos) tA:=by
 intro wh pins s σ H Q I h;refine isTrue_and (thn (ha pins s σ H Q I h) λc s1 e=>?_);cases c with
 |true=>exact isTrue_and_nil e|false=>exact e
theorem W91(ha:PT X a tA):PW X (.BoolOp .Or [a] pos) tA:=by
 intro wh pins s σ H Q I h;refine isTrue_or (thn (ha pins s σ H Q I h) λc s1 e=>?_);cases c with
 |false=>exact isTrue_or_nil e|true=>exact e
theorem X01(ha:PT X a tA)(hb:PW X (.BoolOp .And (b::rest) pos) tB'):PW X (.BoolOp .And (a::b::rest) pos) (A72 tA tB'):=by
 intro wh pins s σ H Q I h;refine isTrue_and (thn (ha pins s σ H _ I h) λc s1 ⟨H1,I1,q1⟩=>?_);cases c with
 |true=>exact hb wh pins s1 σ H1 Q I1 q1|false=>exact⟨H1,I1,q1⟩
theorem l72(ha:PT X a tA)(hb:PW X (.BoolOp .Or (b::rest) pos) tB'):PW X (.BoolOp .Or (a::b::rest) pos) (tOr tA tB'):=by
 intro wh pins s σ H Q I h;refine isTrue_or (thn (ha pins s σ H _ I h) λc s1 ⟨H1,I1,q1⟩=>?_);cases c with
 |true=>exact⟨H1,I1,q1⟩|false=>exact hb wh pins s1 σ H1 Q I1 q1
theorem X11(ha:PT X a tA):PT X (.UnaryOp .Not a pos) (A82 tA):=by
 intro pins s σ H Q I h;exact isTrue_not (ha pins s σ H (λc H1=>Q (!c) H1) I h)
def l82(ta tb:TE):TE:=λσ H Q=>ta σ H λx H1=>∃ c,x=.bl c/\if c=true then tb σ H1 Q else Q (.bl false) H1
def A92(ta tb:TE):TE:=λσ H Q=>ta σ H λx H1=>∃ c,x=.bl c/\if c=true then Q (.bl true) H1 else tb σ H1 Q
def l92(ta:TE):TE:=λσ H Q=>ta σ H λx H1=>∃ c,x=.bl c/\Q (.bl (!c)) H1
theorem X21{op}{t:TE}(h:PE X a t):PE X (.BoolOp op [a] pos) t:=λpins s σ H Q I hw=>BoolOp_one (h pins s σ H Q I hw)
theorem X31(ha:PE X a ta)(hb:PE X (.BoolOp .And (b::rest) pos) tb):PE X (.BoolOp .And (a::b::rest) pos) (l82 ta tb):=by
 intro pins s σ H Q I h;refine BoolOp_and (thn (ha pins s σ H _ I h) λv s1 ⟨x,H1,I1,r1,q1⟩=>?_);obtain⟨c,rfl,q1⟩:=q1;cases r1;refine À9 ?_;cases c with
 |true=>exact hb pins s1 σ H1 Q I1 q1|false=>exact⟨.bl false,H1,I1,rfl,q1⟩
theorem m02(ha:PE X a ta)(hb:PE X (.BoolOp .Or (b::rest) pos) tb):PE X (.BoolOp .Or (a::b::rest) pos) (A92 ta tb):=by
 intro pins s σ H Q I h;refine BoolOp_or (thn (ha pins s σ H _ I h) λv s1 ⟨x,H1,I1,r1,q1⟩=>?_);obtain⟨c,rfl,q1⟩:=q1;cases r1;refine À9 ?_;cases c with
 |false=>exact hb pins s1 σ H1 Q I1 q1|true=>exact⟨.bl true,H1,I1,rfl,q1⟩
theorem X41(ha:PE X a ta):PE X (.UnaryOp .Not a pos) (l92 ta):=by
 intro pins s σ H Q I h;refine UnaryOp_ (thn (ha pins s σ H _ I h) λv s1 ⟨x,H1,I1,r1,q1⟩=>?_);obtain⟨c,rfl,q1⟩:=q1;cases r1;exact not_of (À9 ⟨.bl (!c),H1,I1,rfl,q1⟩)
def tIf(t:TT)(ta tb:TE):TE:=λσ H Q=>t σ H λc H1=>if c=true then ta σ H1 Q else tb σ H1 Q
theorem w51{c:Î}(hc:PT X c tA)(ha:PE X a ta)(hb:PE X b tb):PE X (.IfExp c a b pos) (tIf tA ta tb):=by
 intro pins s σ H Q I h;refine wpAny_IfExp (thn (hc pins s σ H _ I h) λd s1 ⟨H1,I1,q1⟩=>?_);cases d with
 |true=>exact ha pins s1 σ H1 Q I1 q1|false=>exact hb pins s1 σ H1 Q I1 q1
end
def SqL(K:Â)(H:Hp)(a:Æ)(xs:List V):Prop :=
 Rd H a (.lst xs) ∨
  ∃ (o:Obj) (its:Array Ä) (n:Nat),K.lookup a=some o/\o.cls=.type "list"/\o.dict=none/\o.data=.seq its n/\its.size<=sizeLine/\Vals xs its.toList
def SqT(K:Â)(H:Hp)(a:Æ)(xs:List V):Prop :=
 Rd H a (.tup xs) ∨
  ∃ (o:Obj) (its:Array Ä) (n:Nat),K.lookup a=some o/\o.cls=.type "tuple"/\o.data=.seq its n/\its.size<=sizeLine/\Vals xs its.toList
def B02:Ä->Option V
 |.none=>some .non|.bool b=>some (.bl b)|.int i _=>some (.int i)|.str x _=>some (.str x)|.bytes b _=>some (.byt b)|.float b _=>some (.flt b)|.ref a=>some (.ref a)|.type n=>some (.ty n)|_=>none
theorem RelV.abs{x:V}{u:Ä}(r:RelV x u):B02 u=some x:=by
 cases x with
 |non=>cases r;rfl
 |bl _=>cases r;rfl
 |int _=>obtain⟨t,rfl⟩:=r;rfl
 |str _=>obtain⟨t,rfl⟩:=r;rfl
 |byt _=>obtain⟨t,rfl⟩:=r;rfl
 |flt _=>obtain⟨t,rfl⟩:=r;rfl
 |ref _=>cases r;rfl
 |ty _=>cases r;rfl
theorem RelV.inj{x y:V}{u:Ä}(r:RelV x u)(q:RelV y u):x=y:=Á4 (r.abs.symm.trans q.abs)
theorem Vals.inj:∀ {xs ys:List V}{us:List Ä},Vals xs us->Vals ys us->xs=ys
 |_,_,_,.nil,.nil=>rfl|_,_,_,.cons r t,.cons r' t'=>by rw[r.inj r',Vals.inj t t']
section
variable {X:Cx}{pins:List (Æ × Obj)}{σ:St}{H:Hp}{s:Å}{a:Æ}{xs ys:List V}
theorem SqL.of{K:Â}(h:H a=some (.lst xs)):SqL K H a xs:=.inl (.inl h)
theorem SqT.of{K:Â}(h:H a=some (.tup xs)):SqT K H a xs:=.inl (.inl h)
theorem Inv.list(I:Inv X pins σ H s)(h:SqL X.K H a xs):∃ its:List Ä,Vals xs its/\PlainL s.heap a its.toArray/\xs.length<=sizeLine:=by
 rcases h with h | ⟨o,its,n,hk,hc,hd,hs,hz,r⟩
 ·obtain⟨z,its,n,r,e⟩:=h.ok I.hok;exact⟨its,r,⟨_,n,e,rfl,rfl,rfl⟩,z⟩
 ·refine⟨its.toList,r,⟨o,n,I.kIn a o hk,hc,hd,by simpa using hs⟩,?_⟩
  have e:=r.length;simp only[È7] at e;omega
theorem Inv.tuple(I:Inv X pins σ H s)(h:SqT X.K H a xs):∃ its:List Ä,Vals xs its/\Ì3 s.heap a its.toArray/\xs.length<=sizeLine:=by
 rcases h with h | ⟨o,its,n,hk,hc,hs,hz,r⟩
 ·obtain⟨z,its,r,p⟩:=h.ok I.hok;exact⟨its,r,p,z⟩
 ·refine⟨its.toList,r,⟨o,I.kIn a o hk,hc,n,by simpa using hs⟩,?_⟩
  have e:=r.length;simp only[È7] at e;omega
theorem Inv.V50(I:Inv X pins σ H s)(h:SqL X.K H a xs)(h':SqL X.K H a ys):xs=ys:=by
 obtain⟨its,r,⟨o,n,e,_,_,d⟩,_⟩:=I.list h;obtain⟨its',r',⟨o',n',e',_,_,d'⟩,_⟩:=I.list h';rw[e] at e';cases e';rw[d] at d';injection d' with d1 _;have:its=its':=by simpa using congrArg toList d1
 subst this;exact r.inj r'
theorem Inv.K10(I:Inv X pins σ H s)(h:SqT X.K H a xs)(h':SqT X.K H a ys):xs=ys:=by
 obtain⟨its,r,⟨o,e,_,n,d⟩,_⟩:=I.tuple h;obtain⟨its',r',⟨o',e',_,n',d'⟩,_⟩:=I.tuple h';rw[e] at e';cases e';rw[d] at d';injection d' with d1 _;have:its=its':=by simpa using congrArg toList d1
 subst this;exact r.inj r'
end
section
variable {X:Cx}{st:Ã8}{rest:List Ã8}{t u:TS}{e:Î}{te:TE}{pos:Pos}
def m12:TS:=λD σ H=>D.nx σ H
def B12(t u:TS):TS:=λD σ H=>t { D with nx:=u D } σ H
theorem K21:PSs X [] m12:=λ_ _ σ H _ I h=>Ò4 ⟨σ,H,I,h⟩
theorem E70(h1:PS X st t)(h2:PSs X rest u):PSs X (st::rest) (B12 t u):=by
 intro pins s σ H D I h;refine wpAny_execs_cons (thn (h1 pins s σ H { D with nx:=u D } I h) λf s1 q=>?_);cases f with
 |next =>
  obtain⟨σ',H',I',q⟩:=q;exact h2 pins s1 σ' H' D I' q
 |ret v=>exact q|brk=>exact q|cont=>exact q
theorem g11(h1:PS X st t):PSs X [st] t:=by
 intro pins s σ H D I h;refine wpAny_execs_cons (thn (h1 pins s σ H D I h) λf s1 q=>?_);cases f with
 |next=>exact Ò4 q
 |ret v=>exact q|brk=>exact q|cont=>exact q
theorem Inv.quiet{pins:List (Æ × Obj)}{σ:St}{H:Hp}{s:Å}(I:Inv X pins σ H s):interactive X.env=false:=by simp[interactive,I.ok.kind]
def m22(te:TE):TS:=λD σ H=>te σ H λ_ H1=>D.nx σ H1
theorem Q70(he:PE X e te)(hs:Í9 e none pos.line X.env=pure false:=by rfl):PS X (.Expr e pos) (m22 te):=by
 intro pins s σ H D I h;exact wpAny_Expr_any (thn (he pins s σ H _ I h) λv s1 ⟨x,H1,I1,r1,q1⟩=>⟨σ,H1,I1,q1⟩) I.quiet hs
def B22(te:TE):TS:=λD σ H=>te σ H D.rt
theorem g21(he:PE X e te):PS X (.Return (some e) pos) (B22 te):=by
 intro pins s σ H D I h;exact wpAny_Return_some (thn (he pins s σ H _ I h) λv s1 ⟨x,H1,I1,r1,q1⟩=>⟨x,σ,H1,I1,r1,q1⟩)
def m32:TS:=λD _ H=>D.rt .non H
theorem K31:PS X (.Return none pos) m32:=λ_ _ σ H _ I h=>wpAny_Return_none ⟨.non,σ,H,I,rfl,h⟩
def B32(c:TT)(t u:TS):TS:=λD σ H=>c σ H λb H1=>if b=true then t D σ H1 else u D σ H1
theorem m42{c:Î}{a b:List Ã8}{tc:TT}(hc:PT X c tc)(ha:PSs X a t)(hb:PSs X b u):PS X (.If c a b pos) (B32 tc t u):=by
 intro pins s σ H D I h;refine wpAny_If (thn (hc pins s σ H _ I h) λd s1 ⟨H1,I1,q1⟩=>?_);cases d with
 |true=>exact ha pins s1 σ H1 D I1 q1|false=>exact hb pins s1 σ H1 D I1 q1
end
abbrev TG:=V->St->Hp->(St->Hp->Prop)->Prop
abbrev TGs:=List V->St->Hp->(St->Hp->Prop)->Prop
def PG(X:Cx)(target:Î)(t:TG):Prop :=
 ∀ (pins:List (Æ × Obj)) (s:Å) (σ:St) (H:Hp) (v:V) (u:Ä) (Q:St->Hp->Prop),Inv X pins σ H s->RelV v u->t v σ H Q ->
  Ñ (Ø X.prog X.w) X.A (Õ2 target X.env u) (λ_ s'=>∃ σ' H',Inv X pins σ' H' s'/\Q σ' H') X.xe s
def PGs(X:Cx)(ts:List Î)(t:TGs):Prop :=
 ∀ (pins:List (Æ × Obj)) (s:Å) (σ:St) (H:Hp) (vs:List V) (us:List Ä) (Q:St->Hp->Prop),Inv X pins σ H s->Vals vs us->t vs σ H Q ->
  Ñ (Ø X.prog X.w) X.A (assignInOrder ((È3 ts X.env).map (·.2)) us) (λ_ s'=>∃ σ' H',Inv X pins σ' H' s'/\Q σ' H') X.xe s
abbrev X51:=V->V->V->Hp->(Hp->Prop)->Prop
def m52(X:Cx)(t:X51):Prop :=
 ∀ (pins:List (Æ × Obj)) (s:Å) (σ:St) (H:Hp) (o i v:V) (ov iv u:Ä) (Q:Hp->Prop),Inv X pins σ H s->RelV o ov->RelV i iv->RelV v u->t o i v H Q ->
  Ñ (Ø X.prog X.w) X.A (setItem ov iv u) (λ_ s'=>∃ H',Inv X pins σ H' s'/\Q H') X.xe s
abbrev TIp:=V->V->Hp->VK->Prop
def PIp(X:Cx)(op:Û3)(t:TIp):Prop :=
 ∀ (pins:List (Æ × Obj)) (s:Å) (σ:St) (H:Hp) (x y:V) (v u:Ä) (Q:VK),Inv X pins σ H s->RelV x v->RelV y u->t x y H Q ->
  Ñ (Ø X.prog X.w) X.A (inplaceOp op v u) (EP X pins σ Q) X.xe s
section
variable {X:Cx}{pos:Pos}
def K20(i:Nat):TG:=λv σ H Q=>Q (σ.set i (some v)) H
theorem g31{i:Nat}{x:Str}(hN:X.N.Nodup)(hi:X.N[i]?=some x)(hx:Loc X.env.scope x)(hf:X.fn x=true∨X.env.scope.names.lookup x=some .local:=by first | exact .inl rfl | exact .inr rfl | assumption):PG X (.Name x pos) (K20 i):=by
 intro pins s σ H v u Q I r h;exact Ú4 (r30 I hN hi hx r (λs' I'=>⟨_,H,I',h⟩) hf)
def x02:TGs:=λvs σ H Q=>vs=[]/\Q σ H
def X61(t:TG)(u:TGs):TGs:=λvs σ H Q=>∃ v r,vs=v::r/\t v σ H λσ' H'=>u r σ' H' Q
theorem K41:PGs X [] x02:=by
 intro pins s σ H vs us Q I r h;obtain⟨e,h⟩:=h;subst e;cases r;exact assignInOrder_nil ⟨σ,H,I,h⟩
theorem w61{e:Î}{es:List Î}{t:TG}{u:TGs}(h1:PG X e t)(h2:PGs X es u)
  (hs:(È3 (e::es) X.env).map (·.2)=Õ2 e X.env::(È3 es X.env).map (·.2):=by rfl):PGs X (e::es) (X61 t u):=by
 intro pins s σ H vs us Q I r h;obtain⟨v,vr,e1,h⟩:=h;subst e1;cases r with
 |cons r rr =>
  rw[hs];refine Ù0 (thn (h1 pins s σ H _ _ _ I r h) λ_ s1 ⟨σ1,H1,I1,q1⟩=>?_);exact h2 pins s1 σ1 H1 _ _ Q I1 rr q1
def x12(K:Â)(n:Nat)(t:TGs):TG:=λv σ H Q=>∃ a xs,v=.ref a/\SqT K H a xs/\xs.length=n/\t xs σ H Q
theorem X71{es:List Î}{k:Nat}{t:TGs}{n:Nat}(hc:X.calm=true)(h:PGs X es t)
  (hn:(È3 es X.env).length=n:=by rfl) (hst:(È3 es X.env).findIdx? (·.1)=none:=by rfl):PG X (.Tuple es k pos) (x12 X.K n t):=by
 intro pins s σ H v u Q I r hw;obtain⟨a,xs,e1,hq,hl,hw⟩:=hw;subst e1;cases r;obtain⟨its,rv,ht,hz⟩:=I.tuple hq;refine assign_Tuple_tuple (I.ok.hd hc) ht (by simp[hn,← hl,rv.length]) hst λh' hx=>?_
 have I1:Inv X pins σ H { s with heap:=h' }:=I.kept (t':=s.toks) λb o e=>hx b o (Û (Ü e)) e;exact h pins _ σ H xs _ Q I1 (by simpa using rv) hw
def B42(to ti:TE)(t:X51):TG:=λv σ H Q=>to σ H λo H1=>ti σ H1 λi H2=>t o i v H2 λH3=>Q σ H3
theorem X81{o i:Î}{to ti:TE}{t:X51}(ho:PE X o to)(hi:PE X i ti)(hs:m52 X t)
  (ha:∀ v,Õ2 (.Subscript o i pos) X.env v=(do
   let ov ← Ú6 [v] (eval o X.env)
   let iv ← Ú6 [v,ov] (eval i X.env)
   standAt pos
   Ú6 [v,ov,iv] (setItem ov iv v)
   release [v,ov,iv] []):=by intro _;rfl):PG X (.Subscript o i pos) (B42 to ti t):=by
 intro pins s σ H v u Q I r h;rw[ha];refine À (Ã1 (thn (ho pins s σ H _ I h) λov s1 ⟨x,H1,I1,r1,q1⟩=>?_));refine À (Ã1 (thn (hi pins s1 σ H1 _ I1 q1) λiv s2 ⟨y,H2,I2,r2,q2⟩=>?_));refine À (Ö8 (À (Ã1 (thn (hs pins s2 σ H2 x y v ov iv u _ I2 r1 r2 r q2) λ_ s3 ⟨H3,I3,q3⟩=>?_))));exact wpAny_release ⟨σ,H3,I3,q3⟩
def X91(te:TE)(g:TG):TS:=λD σ H=>te σ H λx H1=>g x σ H1 D.nx
theorem G31{tg e:Î}{te:TE}{g:TG}(he:PE X e te)(hg:PG X tg g)(hs:swapsWithSole [tg] e pos.line X.env=pure false:=by rfl)(hw:Ã2 [tg] e X.env=pure none:=by rfl)
  (h1:(È3 [tg] X.env).map (·.2)=[Õ2 tg X.env]:=by rfl):PS X (.Assign [tg] e pos) (X91 te g):=by
 intro pins s σ H D I h;refine wpAny_Assign_stores (thn (he pins s σ H _ I h) λv s1 ⟨x,H1,I1,r1,q1⟩=>?_) hs hw;rw[h1];exact thn (hg pins s1 σ H1 x v _ I1 r1 q1) λ_ s2 q=>q
theorem K30{i:Nat}{x:Str}{e:Î}{te:TE}{pos':Pos}(hN:X.N.Nodup)(hi:X.N[i]?=some x)(hx:Loc X.env.scope x)(he:PE X e te)(hs:Í9 e (some (.Name x pos')) pos.line X.env=pure false:=by rfl)(hf:X.fn x=true∨X.env.scope.names.lookup x=some .local:=by first | exact .inl rfl | exact .inr rfl | assumption) :
  PS X (.Assign [.Name x pos'] e pos) (X91 te (K20 i)):=by
 intro pins s σ H D I h;refine wpAny_Assign_Name (thn (he pins s σ H _ I h) λv s1 ⟨y,H1,I1,r1,q1⟩=>?_) hs;exact r30 I1 hN hi hx r1 (λs2 I2=>⟨_,H1,I2,q1⟩) hf
def B52(i j:Nat)(ta:TA):TS:=λD σ H=>ta σ H λvs H1=>∃ v w,vs=[v,w]/\D.nx ((σ.set i (some v)).set j (some w)) H1
theorem Y01{i j:Nat}{x y:Str}{a b:Î}{ta:TA}{px py pt:Pos}{kt k2 pt2}(hc:X.calm=true)(hN:X.N.Nodup)(hi:X.N[i]?=some x)(hj:X.N[j]?=some y)(hij:i≠j)
  (hx:X.env.scope.names.lookup x=some .local) (hy:X.env.scope.names.lookup y=some .local) (ha:PA X [a,b] ta)
  (hw:Ã2 [.Tuple [.Name x px,.Name y py] kt pt] (.Tuple [a,b] k2 pt2) X.env=pure (some [x,y]))
  (hs:swapsWithSole [.Tuple [.Name x px,.Name y py] kt pt] (.Tuple [a,b] k2 pt2) pos.line X.env=pure false:=by rfl) :
  PS X (.Assign [.Tuple [.Name x px,.Name y py] kt pt] (.Tuple [a,b] k2 pt2) pos) (B52 i j ta):=by
 intro pins s σ H D I h;rw[exec_Assign_arm];refine À (Ö8 ?_);rw[hs];refine À (Ç ?_);rw[if_neg (-0)]
 refine À (Tuple_ (thn (ha _ pins s σ H _ I h) λus s1 ⟨vs,H1,I1,r1,q1⟩=>?_));obtain⟨v,w,e1,q1⟩:=q1;subst e1;obtain⟨u1,u2,rfl,rv,rw'⟩:∃ u1 u2,us=[u1,u2]/\RelV v u1/\RelV w u2:=by
  cases r1 with
  |cons p q =>
   cases q with
   |cons p' q' =>
    cases q';exact⟨_,_,rfl,p,p'⟩
 refine î ?_ (by show 2<=sizeLine;decide)
 have I2:Inv X pins σ H1 { s1 with heap:=s1.heap.push { cls:=.type "tuple",data:=.seq [u1,u2].toArray } }:=I1.kept (t':=s1.toks) λb o e=>Ã _ e;rw[hw];refine À (Ç ?_);show Ñ (Ø X.prog X.w) X.A (do rule "assign.swapped-stores";let items ← unpackItems (.ref s1.heap.objs.size) 2 none;assignInOrder [λv=>bindName X.env y v,λv=>bindName X.env x v] items.reverse;pure Flow.next) _ _ _;refine À (Ë6 (À (unpackItems_tuple (items:=#[u1,u2]) (I.ok.hd hc) (Ì3.new s1.heap _) λh' hx'=>?_)));have I3:=I2.kept (h':=h') (t':=s1.toks) λb o e=>hx' b o (Û (Ü e)) e;show Ñ _ _ (assignInOrder [λv=>bindName X.env y v,λv=>bindName X.env x v] [u2,u1] >>= λ_=>pure Flow.next) _ _ _;refine À (Ù0 (wpAny_bindName (r30 I3 hN hj (.inl hy) rw' (λs2 I4=>?_) (.inr hy))));refine Ù0 (wpAny_bindName (r30 I4 hN hi (.inl hx) rv (λs3 I5=>assignInOrder_nil (Ç ?_)) (.inr hx)));rw[List.set_comm _ _ (À1 hij)] at I5;exact⟨_,H1,I5,q1⟩
def B62(i:Nat)(te:TE)(ti:TIp):TS:=λD σ H=>∃ x,σ[i]?=some (some x)/\te σ H λy H1=>ti x y H1 λz H2=>D.nx (σ.set i (some z)) H2
theorem x22{i:Nat}{x:Str}{e:Î}{te:TE}{op:Û3}{ti:TIp}{pos':Pos}(hN:X.N.Nodup)(hi:X.N[i]?=some x)(hx:Loc X.env.scope x)(he:PE X e te)(ho:PIp X op ti)(hf:X.fn x=true∨X.env.scope.names.lookup x=some .local:=by first | exact .inl rfl | exact .inr rfl | assumption) :
  PS X (.AugAssign (.Name x pos') op e pos) (B62 i te ti):=by
 intro pins s σ H D I h;obtain⟨v,e1,h⟩:=h;obtain⟨m,hn,hl⟩:=I.loc;have vis:Vis X.env.scope x:=by rcases hx with k | k;exact .inl k;exact .inr (.inl k)
 obtain⟨u,r,l⟩:=hl i x v hi e1 vis;refine wpAny_AugAssign_Name ?_;have go:Ñ (Ø X.prog X.w) X.A (eval e X.env) (λw s₂=>Ñ (Ø X.prog X.w) X.A (inplaceOp op u w) (λr s₃=>Ñ (Ø X.prog X.w) X.A (storeName X.env x r) (λ_=>SP X pins D .next) X.xe s₃) X.xe s₂) X.xe s:=by
  refine thn (he pins s σ H _ I h) λw s1 ⟨y,H1,I1,r1,q1⟩=>?_;refine thn (ho pins s1 σ H1 v y u w _ I1 r r1 q1) λz s2 ⟨zv,H2,I2,r2,q2⟩=>?_;exact r30 I2 hN hi hx r2 (λs3 I3=>⟨_,H2,I3,q2⟩) hf
 rcases l with ⟨hk,hm⟩ | ⟨hk,c,hc,hcell⟩
 ·exact Ô8 I.ok.kind hk hn hm go
 ·rcases hk with hk | hk
  ·exact wpAny_loadName_cell I.ok.kind hk hc hcell go
  ·rcases hx with k | k
   ·have:X.env.scope.names.lookup x=some .free:=hk;rw[k] at this;cases this
   ·have:X.env.scope.names.lookup x=some .free:=hk;rw[k] at this;cases this
def m62(to ti te:TE)(tget:V->V->Hp->VK->Prop)(tip:TIp)(tset:X51):TS:=λD σ H=>to σ H λo H1=>ti σ H1 λi H2=>tget o i H2 λx H3=>te σ H3 λy H4=>tip x y H4 λz H5=>tset o i z H5 λH6=>D.nx σ H6
def B72(X:Cx)(t:V->V->Hp->VK->Prop):Prop :=
 ∀ (pins:List (Æ × Obj)) (s:Å) (σ:St) (H:Hp) (o i:V) (ov iv:Ä) (Q:VK),Inv X pins σ H s->RelV o ov->RelV i iv->t o i H Q ->
  Ñ (Ø X.prog X.w) X.A (Ï5 ov iv) (EP X pins σ Q) X.xe s
theorem m72{o i e:Î}{to ti te:TE}{tget:V->V->Hp->VK->Prop}{tip:TIp}{tset:X51}{op:Û3}{tpos:Pos}(ho:PE X o to)(hi:PE X i ti)(hg:B72 X tget)(he:PE X e te)(hp:PIp X op tip)(hs:m52 X tset)
  (ha:∀ ov iv new,augStore i ov iv new=(do Ú6 [new,ov,iv] (setItem ov iv new);release [new,ov,iv] [];pure .next):=by intros;rfl):PS X (.AugAssign (.Subscript o i tpos) op e pos) (m62 to ti te tget tip tset):=by
 intro pins s σ H D I h;refine wpAny_AugAssign_SubscriptAny (thn (ho pins s σ H _ I h) λov s1 ⟨x1,H1,I1,r1,q1⟩=>?_) ha;refine thn (hi pins s1 σ H1 _ I1 q1) λiv s2 ⟨x2,H2,I2,r2,q2⟩=>?_;refine thn (hg pins s2 σ H2 x1 x2 ov iv _ I2 r1 r2 q2) λold s3 ⟨x3,H3,I3,r3,q3⟩=>?_;refine thn (he pins s3 σ H3 _ I3 q3) λv s4 ⟨x4,H4,I4,r4,q4⟩=>?_;refine thn (hp pins s4 σ H4 x3 x4 old v _ I4 r3 r4 q4) λnew s5 ⟨x5,H5,I5,r5,q5⟩=>?_;exact thn (hs pins s5 σ H5 x1 x2 x5 ov iv new _ I5 r1 r2 r5 q5) λ_ s6 ⟨H6,I6,q6⟩=>⟨σ,H6,I6,q6⟩
def ipI(f:Int->Int->Int):TIp:=λx y H Q=>∃ i j,x=.int i/\y=.int j/\Q (.int (f i j)) H
theorem x32:PIp X .Add (ipI λi j=>i + j):=by
 intro pins s σ H x y v u Q I r1 r2 h;obtain⟨i,j,e1,e2,q⟩:=h;subst e1;subst e2;obtain⟨t,rfl⟩:=r1;obtain⟨t',rfl⟩:=r2;exact iadd_int ⟨.int _,H,I.tok _,⟨_,rfl⟩,q⟩
def Y11(c:TT)(tb:TS):TS:=λD σ H=>∃ W:Nat->St->Hp->Prop,(∃ m,W m σ H)/\∀ m σ H,W m σ H ->
 c σ H λb H1=>if b=true then ∃ N:St->Hp->Prop,(∀ σ' H',N σ' H'->∃ m',m' < m/\W m' σ' H')/\tb { D with nx:=N,ct:=N,bk:=D.nx } σ H1 else D.nx σ H1
theorem w71{c:Î}{body:List Ã8}{tc:TT}{tb:TS}(hp:PassesOwn (Ø X.prog X.w) X.A X.env X.xe)(hc:PT X c tc)(hb:PSs X body tb):PS X (.While c body [] pos) (Y11 tc tb):=by
 intro pins s σ H D I h;obtain⟨W,⟨m0,w0⟩,turn⟩:=h;refine wpAny_While (codeAny_whileLoop (λn s'=>∃ σ' H',Inv X pins σ' H' s'/\W n σ' H') ?_ m0 ⟨σ,H,I,w0⟩);rintro n s1 ⟨σ1,H1,I1,w1⟩;refine Ç4 hp (thn (hc pins s1 σ1 H1 _ I1 (turn n σ1 H1 w1)) λb s2 ⟨H2,I2,q2⟩=>?_);cases b with
 |true =>
  obtain⟨N,hN,q2⟩:=q2;rw[if_pos rfl];refine Ç4 hp (thn (hb pins s2 σ1 H2 _ I2 q2) λf s3 q3=>?_);cases f with
  |next =>
   obtain⟨σ3,H3,I3,n3⟩:=q3;obtain⟨m',hm,w3⟩:=hN σ3 H3 n3;exact⟨m',hm,σ3,H3,I3,w3⟩
  |cont =>
   obtain⟨σ3,H3,I3,n3⟩:=q3;obtain⟨m',hm,w3⟩:=hN σ3 H3 n3;exact⟨m',hm,σ3,H3,I3,w3⟩
  |brk=>exact q3|ret v=>exact q3
 |false =>
  rw[if_neg Ò];exact Ò4 ⟨σ1,H2,I2,q2⟩
end
structure It where
 go:Nat->Hp->Prop
 yld:Nat->Hp->V->Hp->Prop
 stop:Nat->Hp->Prop
def V60(X:Cx)(pins:List (Æ × Obj))(H:Hp)(b:Æ):Prop :=
 H b=none/\b≠X.env.locals/\b ∉ X.fs/\(b∈X.ex∨X.s₀.heap.objs.size<=b)/\(∀ x c,X.env.cells.lookup x=some c->c≠b)/\∀ p∈X.pn++pins,p.1≠b
theorem Inv.b81{X:Cx}{pins:List (Æ × Obj)}{σ:St}{H H':Hp}{s:Å}{b:Æ}(I:Inv X pins σ H s)(hb:s.heap.objs.size<=b)(hn:H' b=none):V60 X pins H' b:=by
 refine⟨hn,Ò8 (Ö I.lt hb),I.A62 hb,.inr (Ô I.sz hb),λx c e z=>?_,λp hp z=>?_⟩
 ·obtain⟨v,q⟩:=I.cell x c e;exact absurd (Ö q.lt (by rw[z];exact hb)) (À4 _)
 ·exact absurd (Ö (Ü (I.pin p hp).1) (by rw[z];exact hb)) (À4 _)
structure Turn(P:Program)(w:World)(K:PySem.W.Frag)(tg:Expr)(J:It)(fp:List Addr)(it:Addr)(tn:Nat->Heap->Prop):Prop where
 mem:it∈fp
 obj:∀ i h,tn i h->∀ b∈fp,∃ o,h.get? b=some o/\∀ v,o.data≠.cell v
 keep:∀ i h h',tn i h->(∀ b∈fp,∀ o,h.get? b=some o->h'.get? b=some o)->tn i h'
 item:∀ (X:Cx),X.prog=P->X.w=w->X.K=K->X.calm=true->∀ (i:Nat) (pins:List (Addr × Obj)) (s:Shared) (σ:St) (H:Hp) (E:Value->Shared->Prop),Inv X pins σ H s->(∀ b∈fp,V60 X pins H b)->tn i s.heap->J.go i H ->
  wpAny (model P w) X.A (pyNext (.ref it)) (λr s1=>∃ u,r=some u /\
   wpAny (model P w) X.A (letOwnedTupleGo tg (.ref it) u) (λ_ s2=>∃ x H',Inv X pins σ H' s2/\RelV x u/\J.yld i H x H'/\tn (i + 1) s2.heap/\∀ b∈fp,H' b=none) E s1) E s
 done:∀ (X:Cx),X.prog=P->X.w=w->X.K=K->X.calm=true->∀ (i:Nat) (pins:List (Addr × Obj)) (s:Shared) (σ:St) (H:Hp) (E:Value->Shared->Prop),Inv X pins σ H s->(∀ b∈fp,V60 X pins H b)->tn i s.heap->J.stop i H ->
  wpAny (model P w) X.A (pyNext (.ref it)) (λr s1=>r=none/\Inv X pins σ H s1) E s
 self:∀ (A:Around) (i:Nat) (s:Shared) (Q:Value->Shared->Prop) (E:Value->Shared->Prop),tn i s.heap->Q (.ref it) s->wpAny (model P w) A (pyIter (.ref it)) Q E s
abbrev TI:=St->Hp->(It->Hp->Prop)->Prop
def PIE(X:Cx)(pins:List (Æ × Obj))(σ:St)(tg:Î)(R:It->Hp->Prop)(itv:Ä)(s2:Å):Prop :=
 ∃ (it:Æ) (fp:List Æ) (tn:Nat->ï->Prop) (J:It) (H':Hp),itv=.ref it/\Inv X pins σ H' s2/\Turn X.prog X.w X.K tg J fp it tn/\tn 0 s2.heap/\(∀ b∈fp,V60 X pins H' b)/\R J H'
def PI(X:Cx)(tg iter:Î)(wi:TI):Prop :=
 ∀ (pins:List (Æ × Obj)) (s:Å) (σ:St) (H:Hp) (R:It->Hp->Prop),Inv X pins σ H s->wi σ H R ->
  Ñ (Ø X.prog X.w) X.A (eval iter X.env) (λv s1=>Ñ (Ø X.prog X.w) X.A (pyIter v) (PIE X pins σ tg R) X.xe s1) X.xe s
theorem w81{M:Model}{A:ü}{E:Ä->Å->Prop}{s:Å}{tg:Î}{it:Æ}{u:Ä}{o:Obj}{n:String}{vs:Array Ä}{Q:Unit->Å->Prop}(ho:s.heap.get? it=some o)(hc:o.cls=.type n)(hd:o.data=.fields vs)
  (hn:["enumerate","zip","dict_itemiterator","dict_reverseitemiterator","odict_iterator","itertools.zip_longest","itertools.pairwise"].contains n=false) (hQ:Q () s):Ñ M A (Ý7 tg (.ref it) u) Q E s:=by
 unfold Ý7;cases tg <;> first
  |exact Ç hQ
  |(cases u <;> first
    |exact Ç hQ
    |(refine À (wpAny_load ho ?_)
      rw[hc,hd];show Ñ M A (if (["enumerate","zip","dict_itemiterator","dict_reverseitemiterator","odict_iterator","itertools.zip_longest","itertools.pairwise"].contains n&&vs[0]? == some (rawInt _))=true then _ else _) Q E s;rw[if_neg (by intro h;rw[hn,É5] at h;cases h)]
      exact Ç hQ))
def Itl(K:Â)(a:Æ):It :=
 ⟨λi H=>∃ xs x,SqL K H a xs/\xs[i]?=some x,λi H x H'=>H'=H/\∀ xs,SqL K H a xs->xs[i]?=some x,λi H=>∃ xs,SqL K H a xs/\xs.length<=i⟩
def Itt(K:Â)(a:Æ):It :=
 ⟨λi H=>∃ xs x,SqT K H a xs/\xs[i]?=some x,λi H x H'=>H'=H/\∀ xs,SqT K H a xs->xs[i]?=some x,λi H=>∃ xs,SqT K H a xs/\xs.length<=i⟩
def Itr(lo:Int)(n:Nat):It:=⟨λi _=>i < n,λi H x H'=>H'=H/\x=.int (lo + i),λi _=>n<=i⟩
theorem g41{P:â}{w:õ}{K:Â}{tg:Î}(a it:Æ):Turn P w K tg (Itl K a) [it] it (λi h=>h.IsListIter it a i) where
 mem:=by simp
 obj:=λi h st b hb=>by
  have e:b=it:=by simpa using hb
  subst e;obtain⟨o,e,c,d⟩:=st;exact⟨o,e,λv z=>by rw[d] at z;cases z⟩
 keep:=λi h h' st k=>st.at λo e=>k it (by simp) o e
 item:=by
  intro X hP hw hK hc i pins s σ H E I hf st hg;subst hP hw hK;obtain⟨xs,x,hq,hx⟩:=hg;obtain⟨its,rv,p,hz⟩:=I.list hq;obtain⟨u,hu,ru⟩:=rv.get hx;obtain⟨f0,f1,f2,f3,f4,f5⟩:=hf it (by simp)
  refine wpAny_pyNext_list_item st p.isList (x:=u) (by simpa using hu) λh' st' sb=>?_
  have I1:Inv X pins σ H { s with heap:=h' }:=I.turned (t':=s.toks) (λb o hb e=>(sb.2 b hb).trans e) f0 f1 f3 f4 f5;obtain⟨o,e,c,d⟩:=id st';exact⟨u,rfl,w81 (s:={ s with heap:=h' }) e c d (-0) ⟨x,H,I1,ru,⟨rfl,λys hy=>by rw[I.V50 hy hq];exact hx⟩,st',λb hb=>(hf b hb).1⟩⟩
 done:=by
  intro X hP hw hK hc i pins s σ H E I hf st hg;subst hP hw hK;obtain⟨xs,hq,hx⟩:=hg;obtain⟨its,rv,p,hz⟩:=I.list hq;obtain⟨f0,f1,f2,f3,f4,f5⟩:=hf it (by simp)
  have hl:=rv.length;exact wpAny_pyNext_list_end (I.ok.hd hc) st p.isList (by simp;omega) λh' eb=>⟨rfl,I.turned (t':=s.toks) (λb o hb e=>eb b o hb e) f0 f1 f3 f4 f5⟩
 self:=λ_ _ _ _ _ st h=>wpAny_pyIter_listiter st h
theorem b91{P:â}{w:õ}{K:Â}{tg:Î}(a it:Æ):Turn P w K tg (Itt K a) [it] it (λi h=>h.IsTupleIter it a i) where
 mem:=by simp
 obj:=λi h st b hb=>by
  have e:b=it:=by simpa using hb
  subst e;obtain⟨o,e,c,d⟩:=st;exact⟨o,e,λv z=>by rw[d] at z;cases z⟩
 keep:=λi h h' st k=>st.at λo e=>k it (by simp) o e
 item:=by
  intro X hP hw hK hc i pins s σ H E I hf st hg;subst hP hw hK;obtain⟨xs,x,hq,hx⟩:=hg;obtain⟨its,rv,p,hz⟩:=I.tuple hq;obtain⟨u,hu,ru⟩:=rv.get hx;obtain⟨f0,f1,f2,f3,f4,f5⟩:=hf it (by simp)
  refine wpAny_pyNext_tuple_item st (show s.heap.IsTuple a its.toArray from p) (x:=u) (by simpa using hu) λh' st' sb=>?_
  have I1:Inv X pins σ H { s with heap:=h' }:=I.turned (t':=s.toks) (λb o hb e=>(sb.2 b hb).trans e) f0 f1 f3 f4 f5;obtain⟨o,e,c,d⟩:=id st';exact⟨u,rfl,w81 (s:={ s with heap:=h' }) e c d (-0) ⟨x,H,I1,ru,⟨rfl,λys hy=>by rw[I.K10 hy hq];exact hx⟩,st',λb hb=>(hf b hb).1⟩⟩
 done:=by
  intro X hP hw hK hc i pins s σ H E I hf st hg;subst hP hw hK;obtain⟨xs,hq,hx⟩:=hg;obtain⟨its,rv,p,hz⟩:=I.tuple hq;obtain⟨f0,f1,f2,f3,f4,f5⟩:=hf it (by simp)
  have hl:=rv.length;exact wpAny_pyNext_tuple_end (I.ok.hd hc) st (show s.heap.IsTuple a its.toArray from p) (by simp;omega) λh' eb=>⟨rfl,I.turned (t':=s.toks) (λb o hb e=>eb b o hb e) f0 f1 f3 f4 f5⟩
 self:=λ_ _ _ _ _ st h=>wpAny_pyIter_tupleiter st h
theorem c01{P:â}{w:õ}{K:Â}{tg:Î}(it:Æ)(lo:Int)(n:Nat):Turn P w K tg (Itr lo n) [it] it (λi h=>IsRangeIter h it (lo + (i:Nat) * 1) ((n:Int) - (i:Nat)) 1) where
 mem:=by simp
 obj:=λi h st b hb=>by
  have e:b=it:=by simpa using hb
  subst e;exact⟨_,st,λv z=>by
   have z':Data.fields _=Data.cell v:=z;cases z'⟩
 keep:=λi h h' st k=>k it (by simp) _ st
 item:=by
  intro X hP hw hK hc i pins s σ H E I hf st hg;subst hP hw hK;obtain⟨f0,f1,f2,f3,f4,f5⟩:=hf it (by simp)
  have W:=Walks.range (prog:=X.prog) (w:=X.w) (I.ok.hd hc) it lo 1 n;refine W.item i s _ _ hg st λv h' tk hv st' kk=>?_;obtain⟨t,rfl⟩:=hv;have I1:Inv X pins σ H { s with heap:=h',toks:=tk }:=I.turned (λb o hb e=>kk b o (by simpa using hb) e) f0 f1 f3 f4 f5
  refine⟨_,rfl,w81 (s:={ s with heap:=h',toks:=tk }) (n:="range_iterator") st' rfl rfl (-0) ⟨.int (lo + i),H,I1,⟨t,?_⟩,⟨rfl,rfl⟩,st',λb hb=>(hf b hb).1⟩⟩
  rw[Int.mul_one]
 done:=by
  intro X hP hw hK hc i pins s σ H E I hf st hg;subst hP hw hK;obtain⟨f0,f1,f2,f3,f4,f5⟩:=hf it (by simp)
  exact wpAny_pyNext_range_end (I.ok.hd hc) st (by have:n<=i:=hg;omega) λh' eb=>⟨rfl,I.turned (t':=s.toks) (λb o hb e=>eb b o hb e) f0 f1 f3 f4 f5⟩
 self:=λ_ _ _ _ _ st h=>wpAny_pyIter_rangeiter st h
section
variable {X:Cx}{tg:Î}
def m82(K:Â)(tl:TE):TI:=λσ H R=>tl σ H λx H1=>∃ a,x=.ref a/\(∃ xs,SqL K H1 a xs)/\R (Itl K a) H1
def B82(K:Â)(tl:TE):TI:=λσ H R=>tl σ H λx H1=>∃ a,x=.ref a/\(∃ xs,SqT K H1 a xs)/\R (Itt K a) H1
theorem Q80{l:Î}{tl:TE}(hl:PE X l tl):PI X tg l (m82 X.K tl):=by
 intro pins s σ H R I h;refine thn (hl pins s σ H _ I h) λv s1 ⟨x,H1,I1,r1,q1⟩=>?_;obtain⟨a,e,⟨xs,hq⟩,q⟩:=q1;subst e;cases r1;obtain⟨its,rv,p,hz⟩:=I1.list hq;refine Ê4 p.isList ?_;refine⟨s1.heap.objs.size,[s1.heap.objs.size],_,_,H1,rfl,I1.kept (t':=s1.toks) λb o e=>Ã _ e,g41 a _,⟨_,Ì _ rfl,rfl,rfl⟩,λb hb=>?_,q⟩;have e:b=s1.heap.objs.size:=by simpa using hb
 subst e;exact I1.b81 (É _) (I1.hok.fresh (É _))
theorem G41{l:Î}{tl:TE}(hl:PE X l tl):PI X tg l (B82 X.K tl):=by
 intro pins s σ H R I h;refine thn (hl pins s σ H _ I h) λv s1 ⟨x,H1,I1,r1,q1⟩=>?_;obtain⟨a,e,⟨xs,hq⟩,q⟩:=q1;subst e;cases r1;obtain⟨its,rv,p,hz⟩:=I1.tuple hq;refine É6 (show s1.heap.IsTuple a its.toArray from p) ?_;refine⟨s1.heap.objs.size,[s1.heap.objs.size],_,_,H1,rfl,I1.kept (t':=s1.toks) λb o e=>Ã _ e,b91 a _,⟨_,Ì _ rfl,rfl,rfl⟩,λb hb=>?_,q⟩;have e:b=s1.heap.objs.size:=by simpa using hb
 subst e;exact I1.b81 (É _) (I1.hok.fresh (É _))
theorem V70{pins:List (Æ × Obj)}{σ:St}{H:Hp}{s:Å}{R:It->Hp->Prop}{E:Ä->Å->Prop}{lo hi:Int}{t u v:Tok}{tk:Nat}(I:Inv X pins σ H s)(h1:-(2 ^ 62)<=lo)(h2:lo < 2 ^ 62)(h3:-(2 ^ 62)<=hi)(h4:hi < 2 ^ 62)
  (q:R (Itr lo (hi - lo).toNat) H):Ñ (Ø X.prog X.w) X.A (pyIter (.ref s.heap.objs.size)) (PIE X pins σ tg R) E { s with heap:=s.heap.push { cls:=.type "range",data:=.fields #[.int lo t,.int hi u,.int 1 v] },toks:=tk }:=by
 refine wpAny_pyIter_range (Ò2.new ..) (small_one h1 h2 h3 h4) ?_;have I1:Inv X pins σ H { s with heap:=s.heap.push { cls:=.type "range",data:=.fields #[.int lo t,.int hi u,.int 1 v] },toks:=tk }:=I.kept λb o e=>Ã _ e;refine⟨(s.heap.push { cls:=.type "range",data:=.fields #[.int lo t,.int hi u,.int 1 v] }).objs.size,[(s.heap.push { cls:=.type "range",data:=.fields #[.int lo t,.int hi u,.int 1 v] }).objs.size],_,_,H,rfl,
  I1.kept (t':=tk) λb o e=>Ã _ e,c01 _ lo (hi - lo).toNat,?_,λb hb=>?_,q⟩
 ·have e1:lo + ((0:Nat):Int) * 1=lo:=by simp
  have e2:(((hi - lo).toNat:Nat):Int) - ((0:Nat):Int)=Â2 lo hi 1:=by rw[rangeSize_one];split <;> omega
  show IsRangeIter _ _ (lo + ((0:Nat):Int) * 1) ((((hi - lo).toNat:Nat):Int) - ((0:Nat):Int)) 1;rw[e1,e2];exact Ì _ rfl
 ·have e:b=(s.heap.push { cls:=.type "range",data:=.fields #[.int lo t,.int hi u,.int 1 v] }).objs.size:=by simpa using hb
  subst e;exact I1.b81 (É _) (I1.hok.fresh (É _))
def m92(ta:TA):TI:=λσ H R=>ta σ H λvs H1=>∃ j:Int,vs=[.int j]/\-(2 ^ 62)<=j/\j < 2 ^ 62/\R (Itr 0 j.toNat) H1
def n22(ta:TA):TI:=λσ H R=>ta σ H λvs H1=>∃ i j:Int,vs=[.int i,.int j]/\(-(2 ^ 62)<=i/\i < 2 ^ 62/\-(2 ^ 62)<=j/\j < 2 ^ 62)/\R (Itr i (j - i).toNat) H1
theorem g51{a:Î}{ta:TA}{p pos:Pos}(hg:Gl X "range")(hm:X.mg "range"=none)(ha:PA X [a] ta)(hs:û [a] X.env=[(false,eval a X.env)]:=by rfl):PI X tg (.Call (.Name "range" p) [a] [] pos) (m92 ta):=by
 intro pins s σ H R I h;refine Call_ (r40 I hg hm boot_range (À0 (thn (ha pos pins s σ H _ I h) λus s1 ⟨vs,H1,I1,r1,q1⟩=>?_) hs rfl));obtain⟨j,e,q1,q2,q⟩:=q1;subst e;cases r1 with
 |cons r rr =>
  cases rr;obtain⟨t,rfl⟩:=r;exact call_range_1 (V70 I1 ∅ ∅ q1 q2 (by simpa using q))
theorem g61{a b:Î}{ta:TA}{p pos:Pos}(hg:Gl X "range")(hm:X.mg "range"=none)(ha:PA X [a,b] ta)(hs:û [a,b] X.env=[(false,eval a X.env),(false,eval b X.env)]:=by rfl)(hs2:û [b] X.env=[(false,eval b X.env)]:=by rfl) :
  PI X tg (.Call (.Name "range" p) [a,b] [] pos) (n22 ta):=by
 intro pins s σ H R I h;refine Call_ (r40 I hg hm boot_range (À0 (thn (ha pos pins s σ H _ I h) λus s1 ⟨vs,H1,I1,r1,q1⟩=>?_) (by rw[hs,hs2]) (by rw[hs2];rfl)))
 obtain⟨i,j,e,⟨q1,q2,q3,q4⟩,q⟩:=q1;subst e;cases r1 with
 |cons r rr =>
  cases rr with
  |cons r' rr =>
   cases rr;obtain⟨t,rfl⟩:=r;obtain⟨t',rfl⟩:=r';exact call_range_2 (V70 I1 q1 q2 q3 q4 q)
def B92(wi:TI)(g:TG)(tb:TS):TS:=λD σ H=>wi σ H λJ H1=>∃ W:Nat->Nat->St->Hp->Prop,(∃ m,W 0 m σ H1)/\∀ i m σ H,W i m σ H ->
 (J.stop i H/\D.nx σ H)∨(J.go i H/\∃ N:St->Hp->Prop,(∀ σ' H',N σ' H'->∃ m',m' < m/\W (i + 1) m' σ' H')/\∀ x H',J.yld i H x H'->g x σ H' λσ2 H2=>tb { D with nx:=N,ct:=N,bk:=D.nx } σ2 H2)
def y90(fp:List Æ)(h:ï):List (Æ × Obj):=fp.filterMap λb=>(h.get? b).map λo=>(b,o)
theorem j90{fp:List Æ}{h:ï}{b:Æ}{o:Obj}(hb:b∈fp)(e:h.get? b=some o):(b,o)∈y90 fp h:=Ô2.mpr ⟨b,hb,by rw[e];rfl⟩
theorem K40{fp:List Æ}{h:ï}{p:Æ × Obj}(hp:p∈y90 fp h):p.1∈fp/\h.get? p.1=some p.2:=by
 obtain⟨b,hb,e⟩:=Ô2.mp hp;cases q:h.get? b with
 |none=>rw[q] at e;cases e
 |some o =>
  rw[q] at e;have e':(b,o)=p:=Á4 e;subst e';exact⟨hb,q⟩
theorem Inv.pinned{pins:List (Æ × Obj)}{σ:St}{H:Hp}{s:Å}{fp:List Æ}(I:Inv X pins σ H s)(hf:∀ b∈fp,V60 X pins H b)(ho:∀ b∈fp,∃ o,s.heap.get? b=some o/\∀ v,o.data≠.cell v):Inv X (pins++y90 fp s.heap) σ H s :=
 I.y80 λp hp=>(À2.mp hp).elim (λz=>I.pin p (è _ z)) λz=>by
  obtain⟨hb,e⟩:=K40 z;obtain⟨f0,f1,f2,_⟩:=hf p.1 hb;obtain⟨o,e',d⟩:=ho p.1 hb;rw[e] at e';cases e';exact⟨e,f0,f1,f2,d⟩
theorem Inv.E80{pins pl:List (Æ × Obj)}{σ:St}{H:Hp}{s:Å}(I:Inv X (pins++pl) σ H s):Inv X pins σ H s:=I.y80 λp hp=>I.pin p (è _ (É0 _ hp))
theorem g71{iter:Î}{body:List Ã8}{wi:TI}{g:TG}{tb:TS}{pos:Pos}(hp:PassesOwn (Ø X.prog X.w) X.A X.env X.xe)(hc:X.calm=true)(hi:PI X tg iter wi)(hg:PG X tg g)(hb:PSs X body tb)
  (hs:∀ x,Ç8 iter X.env x=pure x:=by intro _;rfl):PS X (.For tg iter body [] pos) (B92 wi g tb):=by
 intro pins s σ H D I h;refine wpAny_For (thn (hi pins s σ H _ I h) λv s1 h1=>thn h1 λitv s2 h2=>?_) hs;obtain⟨it,fp,tn,J,H2,e,I2,T,st2,f2,W,⟨m0,w0⟩,turn⟩:=h2;subst e;have stat:∀ {H':Hp},(∀ b∈fp,H' b=none)->∀ b∈fp,V60 X pins H' b:=λhn b hb=>⟨hn b hb,(f2 b hb).2⟩;refine codeAny_forLoop_any (λn s'=>∃ i σ' H',Inv X pins σ' H' s'/\tn i s'.heap/\(∀ b∈fp,H' b=none)/\W i n σ' H') ?_ m0 ⟨0,σ,H2,I2,st2,λb hb=>(f2 b hb).1,w0⟩;rintro n s3 ⟨i,σ3,H3,I3,st3,fr3,w3⟩;rcases turn i n σ3 H3 w3 with ⟨stop,qn⟩ | ⟨go,N,hN,step⟩
 ·refine Ç4 hp (thn (T.done X rfl rfl rfl hc i pins s3 σ3 H3 X.xe I3 (stat fr3) st3 stop) λr s4 ⟨hr,I4⟩=>?_);subst hr;exact Ò4 ⟨σ3,H3,I4,qn⟩
 ·refine Ç4 hp (thn (T.item X rfl rfl rfl hc i pins s3 σ3 H3 X.xe I3 (stat fr3) st3 go) λr s4 ⟨u,hr,h4⟩=>?_);subst hr;refine Ç4 hp (thn h4 λ_ s5 ⟨x,H5,I5,r5,y5,st5,fr5⟩=>?_);have I5':=I5.pinned (stat fr5) (T.obj _ _ st5);refine Ç4 hp (thn (hg _ s5 σ3 H5 x u _ I5' r5 (step x H5 y5)) λ_ s6 ⟨σ6,H6,I6,q6⟩=>?_);refine Ç4 hp (thn (hb _ s6 σ6 H6 _ I6 q6) λf s7 q7=>?_);have again:∀ {σ7:St}{H7:Hp},Inv X (pins++y90 fp s5.heap) σ7 H7 s7->N σ7 H7->∃ m,m < n/\∃ i σ' H',Inv X pins σ' H' s7/\tn i s7.heap/\(∀ b∈fp,H' b=none)/\W i m σ' H':=λ{σ7 H7} I7 n7=>by
   obtain⟨m',hm,w7⟩:=hN σ7 H7 n7;refine⟨m',hm,i + 1,σ7,H7,I7.E80,T.keep _ _ _ st5 λb hb o e=>(I7.pin (b,o) (è _ (è _ (j90 hb e)))).1,λb hb=>?_,w7⟩;obtain⟨o,e,d⟩:=T.obj _ _ st5 b hb;exact(I7.pin (b,o) (è _ (è _ (j90 hb e)))).2.1
  cases f with
  |next=>obtain⟨σ7,H7,I7,n7⟩:=q7;exact again I7 n7
  |cont=>obtain⟨σ7,H7,I7,n7⟩:=q7;exact again I7 n7
  |brk=>obtain⟨σ7,H7,I7,q7⟩:=q7;exact⟨σ7,H7,I7.E80,q7⟩
  |ret v=>obtain⟨x7,σ7,H7,I7,r7,q7⟩:=q7;exact⟨x7,σ7,H7,I7.E80,r7,q7⟩
end
abbrev R2:=V->V->Hp->VK->Prop
def OpR(X:Cx)(f:Ä->Ä->Sem Ä)(r:R2):Prop :=
 ∀ (pins:List (Æ × Obj)) (s:Å) (σ:St) (H:Hp) (x y:V) (v u:Ä) (Q:VK),Inv X pins σ H s->RelV x v->RelV y u->r x y H Q ->
  Ñ (Ø X.prog X.w) X.A (f v u) (EP X pins σ Q) X.xe s
def UnR(X:Cx)(f:Ä->Sem Ä)(r:V->Hp->VK->Prop):Prop :=
 ∀ (pins:List (Æ × Obj)) (s:Å) (σ:St) (H:Hp) (x:V) (v:Ä) (Q:VK),Inv X pins σ H s->RelV x v->r x H Q ->
  Ñ (Ø X.prog X.w) X.A (f v) (EP X pins σ Q) X.xe s
def f00(X:Cx)(f:Ä)(r:List V->Hp->VK->Prop):Prop :=
 ∀ (pins:List (Æ × Obj)) (s:Å) (σ:St) (H:Hp) (xs:List V) (us:List Ä) (Q:VK),Inv X pins σ H s->Vals xs us->r xs H Q ->
  Ñ (Ø X.prog X.w) X.A (call f us) (EP X pins σ Q) X.xe s
def tOp(r:R2)(ta tb:TE):TE:=λσ H Q=>ta σ H λx H1=>tb σ H1 λy H2=>r x y H2 Q
def tUn(r:V->Hp->VK->Prop)(ta:TE):TE:=λσ H Q=>ta σ H λx H1=>r x H1 Q
def rI(C:Int->Int->Prop)(g:Int->Int->V):R2:=λx y H Q=>∃ i j,x=.int i/\y=.int j/\C i j/\Q (g i j) H
def rI0(g:Int->Int->V):R2:=λx y H Q=>∃ i j,x=.int i/\y=.int j/\Q (g i j) H
def rU(g:Int->V):V->Hp->VK->Prop:=λx H Q=>∃ i,x=.int i/\Q (g i) H
section
variable {X:Cx}{a b c:Î}{ta tb tc:TE}{pos:Pos}
theorem n32(ha:PE X a ta)(hb:PE X b tb){pins:List (Æ × Obj)}{s:Å}{σ:St}{H:Hp}{R:V->V->Hp->Prop}(I:Inv X pins σ H s)
  (h:ta σ H λx H1=>tb σ H1 λy H2=>R x y H2) {Q:Ä->Å->Prop}{f:Ä->Ä->Sem Ä}
  (hf:∀ v u s2 x y H2,Inv X pins σ H2 s2->RelV x v->RelV y u->R x y H2->Ñ (Ø X.prog X.w) X.A (f v u) Q X.xe s2) :
  Ñ (Ø X.prog X.w) X.A (eval a X.env) (λv s₁=>Ñ (Ø X.prog X.w) X.A (eval b X.env) (λu s₂=>Ñ (Ø X.prog X.w) X.A (f v u) Q X.xe s₂) X.xe s₁) X.xe s:=by
 refine thn (ha pins s σ H _ I h) λv s1 ⟨x,H1,I1,r1,q1⟩=>?_;refine thn (hb pins s1 σ H1 _ I1 q1) λu s2 ⟨y,H2,I2,r2,q2⟩=>?_;exact hf v u s2 x y H2 I2 r1 r2 q2
theorem n42{op:Û3}{r:R2}(ho:OpR X (Â6 op) r)(ha:PE X a ta)(hb:PE X b tb):PE X (.BinOp a op b pos) (tOp r ta tb):=by
 intro pins s σ H Q I h;exact wpAny_BinOp (n32 ha hb I h λv u s2 x y H2 I2 rx ry q=>ho pins s2 σ H2 x y v u Q I2 rx ry q)
theorem n52{op:UnaryOp}{r:V->Hp->VK->Prop}(ho:UnR X (unaryOp op) r)(ha:PE X a ta):PE X (.UnaryOp op a pos) (tUn r ta):=by
 intro pins s σ H Q I h;exact UnaryOp_ (thn (ha pins s σ H _ I h) λv s1 ⟨x,H1,I1,r1,q1⟩=>ho pins s1 σ H1 x v Q I1 r1 q1)
theorem opI{f:Ä->Ä->Sem Ä}{C:Int->Int->Prop}{g:Int->Int->Int}
  (rule:∀ (i j:Int) (t u:Tok) (s:Å) (Q:Ä->Å->Prop) (E:Ä->Å->Prop),C i j->Q (.int (g i j) s.toks) { s with toks:=s.toks + 1 }->Ñ (Ø X.prog X.w) X.A (f (.int i t) (.int j u)) Q E s) :
  OpR X f (rI C λi j=>.int (g i j)):=by
 intro pins s σ H x y v u Q I rx ry h;obtain⟨i,j,rfl,rfl,hc,q⟩:=h;obtain⟨t,rfl⟩:=rx;obtain⟨t',rfl⟩:=ry;exact rule i j t t' s _ _ hc ⟨.int (g i j),H,I.tok _,⟨_,rfl⟩,q⟩
theorem n62{f:Ä->Ä->Sem Ä}{g:Int->Int->Int}
  (rule:∀ (i j:Int) (t u:Tok) (s:Å) (Q:Ä->Å->Prop) (E:Ä->Å->Prop),Q (.int (g i j) s.toks) { s with toks:=s.toks + 1 }->Ñ (Ø X.prog X.w) X.A (f (.int i t) (.int j u)) Q E s) :
  OpR X f (rI0 λi j=>.int (g i j)):=by
 intro pins s σ H x y v u Q I rx ry h;obtain⟨i,j,rfl,rfl,q⟩:=h;obtain⟨t,rfl⟩:=rx;obtain⟨t',rfl⟩:=ry;exact rule i j t t' s _ _ ⟨.int (g i j),H,I.tok _,⟨_,rfl⟩,q⟩
theorem n72{f:Ä->Ä->Sem Ä}{g:Int->Int->Bool}
  (rule:∀ (i j:Int) (t u:Tok) (s:Å) (Q:Ä->Å->Prop) (E:Ä->Å->Prop),Q (.bool (g i j)) s->Ñ (Ø X.prog X.w) X.A (f (.int i t) (.int j u)) Q E s) :
  OpR X f (rI0 λi j=>.bl (g i j)):=by
 intro pins s σ H x y v u Q I rx ry h;obtain⟨i,j,rfl,rfl,q⟩:=h;obtain⟨t,rfl⟩:=rx;obtain⟨t',rfl⟩:=ry;exact rule i j t t' s _ _ ⟨.bl (g i j),H,I,rfl,q⟩
def x42(i j:Int):Prop:=0<=j/\j<=1000000/\i.natAbs < 2 ^ 64
theorem Y21:OpR X (Â6 .Add) (rI0 λi j=>.int (i + j)):=n62 λ_ _ _ _ _ _ _ q=>add_int q
theorem Y31:OpR X (Â6 .Sub) (rI0 λi j=>.int (i - j)):=n62 λ_ _ _ _ _ _ _ q=>sub_int q
theorem Y41:OpR X (binaryOp .Mod) (rI (λ_ j=>0 < j) λi j=>.int (i % j)):=opI λi j _ _ _ _ _ hc q=>by
 have h1:(0:Int) < j:=hc;exact mod_int' ∅ (by rw[Int.fmod_eq_emod_of_nonneg i ∅];exact q)
theorem Y51:OpR X (Â6 .Pow) (rI x42 λi j=>.int (i ^ j.toNat)):=opI λ_ _ _ _ _ _ _ hc q=>pow_int_small hc.1 hc.2.1 hc.2.2 q
theorem Y61:OpR X (Â6 .LShift) (rI x42 λi j=>.int (i * 2 ^ j.toNat)):=opI λ_ _ _ _ _ _ _ hc q=>lshift_int_small hc.1 hc.2.1 hc.2.2 q
theorem x52:OpR X (Â6 .BitAnd) (rI0 λi j=>.int (Â0.bitAnd i j)):=n62 λ_ _ _ _ _ _ _ q=>and_int q
theorem unI{f:Ä->Sem Ä}{g:Int->Int}
  (rule:∀ (i:Int) (t:Tok) (s:Å) (Q:Ä->Å->Prop) (E:Ä->Å->Prop),Q (.int (g i) s.toks) { s with toks:=s.toks + 1 }->Ñ (Ø X.prog X.w) X.A (f (.int i t)) Q E s) :
  UnR X f (rU λi=>.int (g i)):=by
 intro pins s σ H x v Q I rx h;obtain⟨i,rfl,q⟩:=h;obtain⟨t,rfl⟩:=rx;exact rule i t s _ _ ⟨.int (g i),H,I.tok _,⟨_,rfl⟩,q⟩
theorem Y71:UnR X (unaryOp .USub) (rU λi=>.int (-i)):=unI λ_ _ _ _ _ q=>neg_int q
theorem V80{pins:List (Æ × Obj)}{σ:St}{H:Hp}{s:Å}{Q:VK}{k k':Bool}(I:Inv X pins σ H s)(q:Q (.bl k) H)(e:k=k'):EP X pins σ Q (.bool k') s:=by
 subst e;exact⟨.bl k,H,I,rfl,q⟩
theorem n82:OpR X (ö .LtE) (rI0 λi j=>.bl (decide (i<=j))):=n72 λ_ _ _ _ _ _ _ q=>le_int q
theorem n92:OpR X (ö .Gt) (rI0 λi j=>.bl (decide (j < i))):=n72 λ_ _ _ _ _ _ _ q=>gt_int q
theorem o02:OpR X (ö .GtE) (rI0 λi j=>.bl (decide (j<=i))):=n72 λ_ _ _ _ _ _ _ q=>ge_int q
theorem x62:OpR X (ö .Is) (λx y H Q=>y=.non/\Q (.bl (decide (x=.non))) H):=by
 intro pins s σ H x y v u Q I rx ry h;obtain⟨rfl,q⟩:=h;cases ry;refine is_none_gen (V80 I q ?_);cases x <;> first
  |(cases rx;rfl)
  |(obtain⟨t,rfl⟩:=rx;rfl)
theorem K51:OpR X (ö .IsNot) (λx y H Q=>y=.non/\Q (.bl (!decide (x=.non))) H):=by
 intro pins s σ H x y v u Q I rx ry h;obtain⟨rfl,q⟩:=h;cases ry;refine isnot_none_gen (V80 I q ?_);cases x <;> first
  |(cases rx;rfl)
  |(obtain⟨t,rfl⟩:=rx;rfl)
theorem g81{op:CmpOp}{r:R2}(ho:OpR X (ö op) r)(ha:PE X a ta)(hb:PE X b tb)(hm:behindInMarks op b=false):PE X (.Compare a [op] [b] pos) (tOp r ta tb):=by
 intro pins s σ H Q I h;exact wpAny_Compare1 (n32 ha hb I h λv u s2 x y H2 I2 rx ry q=>ho pins s2 σ H2 x y v u Q I2 rx ry q) hm
def Y81(t:TE):TT:=λσ H Q=>t σ H λx H'=>∃ k,x=.bl k/\Q k H'
theorem g91{op:CmpOp}{r:R2}(ho:OpR X (ö op) r)(ha:PE X a ta)(hb:PE X b tb)(hm:behindInMarks op b=false):PT X (.Compare a [op] [b] pos) (Y81 (tOp r ta tb)):=by
 intro pins s σ H Q I h;refine wpAny_isTrue_Compare1 (thn (ha pins s σ H _ I h) λv s1 ⟨x,H1,I1,r1,q1⟩=>thn (hb pins s1 σ H1 _ I1 q1) λu s2 ⟨y,H2,I2,r2,q2⟩ =>
  thn (ho pins s2 σ H2 x y v u _ I2 r1 r2 q2) λc s3 ⟨z,H3,I3,r3,k,e,q3⟩=>?_) hm
 subst e;cases r3;exact À9 ⟨H3,I3,q3⟩
def h01(r r':R2)(ta tb tc:TE):TE:=λσ H Q=>ta σ H λx H1=>tb σ H1 λy H2=>r x y H2 λz H3=>∃ k,z=.bl k /\
 (if k=true then tc σ H3 λw' H4=>r' y w' H4 Q else Q (.bl false) H3)
theorem w91{op op':CmpOp}{r r':R2}(ho:OpR X (ö op) r)(ho':OpR X (ö op') r')(ha:PE X a ta)(hb:PE X b tb)(hc:PE X c tc)
  (hm:lastMarks [op,op'] [b,c]=false:=by with_unfolding_all rfl):PE X (.Compare a [op,op'] [b,c] pos) (h01 r r' ta tb tc):=by
 intro pins s σ H Q I h;refine Compare_chain (thn (ha pins s σ H _ I h) λv s1 ⟨x,H1,I1,r1,q1⟩=>chain_link (thn (hb pins s1 σ H1 _ I1 q1) λu s2 ⟨y,H2,I2,r2,q2⟩ =>
  thn (ho pins s2 σ H2 x y v u _ I2 r1 r2 q2) λd s3 ⟨z,H3,I3,r3,k,e,q3⟩=>?_)) hm
 subst e;cases r3;refine À9 ?_;cases k with
 |false=>exact ite_ff ⟨.bl false,H3,I3,rfl,q3⟩|true=>exact ite_tt (chain_last (thn (hc pins s3 σ H3 _ I3 q3) λw' s4 ⟨z',H4,I4,r4,q4⟩=>ho' pins s4 σ H4 y z' u w' Q I4 r2 r4 q4))
theorem x01{op op':CmpOp}{r r':R2}(ho:OpR X (ö op) r)(ho':OpR X (ö op') r')(ha:PE X a ta)(hb:PE X b tb)(hc:PE X c tc)
  (hm:lastMarks [op,op'] [b,c]=false:=by with_unfolding_all rfl):PT X (.Compare a [op,op'] [b,c] pos) (Y81 (h01 r r' ta tb tc)):=by
 intro pins s σ H Q I h;refine isTrue_chain (thn (ha pins s σ H _ I h) λv s1 ⟨x,H1,I1,r1,q1⟩=>test_link (thn (hb pins s1 σ H1 _ I1 q1) λu s2 ⟨y,H2,I2,r2,q2⟩ =>
  thn (ho pins s2 σ H2 x y v u _ I2 r1 r2 q2) λd s3 ⟨z,H3,I3,r3,k,e,q3⟩=>?_)) hm
 subst e;cases r3;refine À9 ?_;cases k with
 |false =>
  obtain⟨k',e',q'⟩:=q3;cases e';exact ite_ff ⟨H3,I3,q'⟩
 |true =>
  refine ite_tt (test_last (thn (hc pins s3 σ H3 _ I3 q3) λw' s4 ⟨z',H4,I4,r4,q4⟩=>thn (ho' pins s4 σ H4 y z' u w' _ I4 r2 r4 q4) λd' s5 ⟨z2,H5,I5,r5,k2,e2,q5⟩=>?_));subst e2;cases r5;exact À9 ⟨H5,I5,q5⟩
theorem V90:(sizeLine:Nat) < 2 ^ 63:=by rw[À8];decide
theorem vals1{x:V}{us:List Ä}(r:Vals [x] us):∃ u,us=[u]/\RelV x u:=by
 cases r with
 |cons r1 r2=>cases r2;exact⟨_,rfl,r1⟩
theorem vals2{x y:V}{us:List Ä}(r:Vals [x,y] us):∃ u w',us=[u,w']/\RelV x u/\RelV y w':=by
 cases r with
 |cons r1 r2 =>
  cases r2 with
  |cons r3 r4=>cases r4;exact⟨_,_,rfl,r1,r3⟩
theorem k22:f00 X (.builtin "abs") (λxs H Q=>∃ i,xs=[.int i]/\Q (.int (if i < 0 then -i else i)) H):=by
 intro pins s σ H xs us Q I r h;obtain⟨i,rfl,q⟩:=h;obtain⟨u,rfl,t,rfl⟩:=vals1 r;exact call_abs_int λu tk=>⟨.int (if i < 0 then -i else i),H,I.tok _,⟨_,rfl⟩,q⟩
theorem h31(hc:X.calm=true):f00 X (.builtin "max") (λxs H Q=>∃ i j,xs=[.int i,.int j]/\Q (.int (if j > i then j else i)) H):=by
 intro pins s σ H xs us Q I r h;obtain⟨i,j,rfl,q⟩:=h;obtain⟨u,w',rfl,⟨t,rfl⟩,⟨t',rfl⟩⟩:=vals2 r;refine max_two_ints (I.ok.hd hc) λh' tk k=>⟨_,H,I.kept k,?_,q⟩;by_cases hj:j > i
 ·rw[if_pos hj,if_pos hj];exact⟨_,rfl⟩
 ·rw[if_neg hj,if_neg hj];exact⟨_,rfl⟩
theorem h41(hc:X.calm=true):f00 X (.builtin "min") (λxs H Q=>∃ i j,xs=[.int i,.int j]/\Q (.int (if j < i then j else i)) H):=by
 intro pins s σ H xs us Q I r h;obtain⟨i,j,rfl,q⟩:=h;obtain⟨u,w',rfl,⟨t,rfl⟩,⟨t',rfl⟩⟩:=vals2 r;refine min_two_ints (I.ok.hd hc) λh' tk k=>⟨_,H,I.kept k,?_,q⟩;by_cases hj:j < i
 ·rw[if_pos hj,if_pos hj];exact⟨_,rfl⟩
 ·rw[if_neg hj,if_neg hj];exact⟨_,rfl⟩
theorem K50:f00 X (.type "int") (λxs H Q=>(∃ i,xs=[.int i]/\Q (.int i) H)∨∃ k,xs=[.bl k]/\Q (.int (if k then 1 else 0)) H):=by
 intro pins s σ H xs us Q I r h;rcases h with ⟨i,rfl,q⟩ | ⟨k,rfl,q⟩
 ·obtain⟨u,rfl,t,rfl⟩:=vals1 r;exact call_int_int ⟨.int i,H,I,⟨_,rfl⟩,q⟩
 ·obtain⟨u,rfl,r1⟩:=vals1 r;cases r1;exact call_int_bool ⟨.int (if k then 1 else 0),H,I.tok _,⟨_,rfl⟩,q⟩
end
structure K60(k:Nat)(A:Around):Prop where
 hd:A.handled=none
 dp:A.depth + 3 * k + 5 < recursionLimit
 un:A.units + 16 * k + 200 < cLine
theorem K60.deeper{k:Nat}{A:ü}(r:K60 (k + 1) A)(env:Env):K60 k (A.deeper env) :=
 ⟨r.hd,by have:=r.dp;show A.depth + 1 + 3 * k + 5 < _;omega,by have:=r.un;show A.units + 3 + 16 * k + 200 < _;omega⟩
theorem K60.depth{k:Nat}{A:ü}(r:K60 k A):A.depth < recursionLimit:=by have:=r.dp;omega
theorem K60.units{k:Nat}{A:ü}(r:K60 k A):A.units + 64 < cLine:=by have:=r.un;omega
def Y91:TA:=λ_ H Q=>Q [] H
def h51(ta:TE)(tr:TA):TA:=λσ H Q=>ta σ H λx H1=>tr σ H1 λxs H2=>Q (x::xs) H2
section
variable {X:Cx}{e:Î}{es:List Î}{te:TE}{t:TA}{pos:Pos}
theorem r50:PA X [] Y91:=λ_ _ _ _ H Q I h=>Õ5 ⟨[],H,I,.nil,h⟩
theorem g10(ha:PE X e te)(hr:PA X es t)(hs:û (e::es) X.env=(false,eval e X.env)::û es X.env:=by rfl):PA X (e::es) (h51 te t):=by
 intro pos pins s σ H Q I h;rw[hs];show Ñ _ _ (spliced ((false,eval e X.env)::Ò0 pos (û es X.env))) _ _ s;refine Calls.spliced_cons (thn (ha pins s σ H _ I h) λu s1 ⟨x,H1,I1,r1,q1⟩=>?_);exact thn (hr pos pins s1 σ H1 _ I1 q1) λus s2 ⟨xs,H2,I2,r2,q2⟩=>⟨x::xs,H2,I2,.cons r1 r2,q2⟩
def C02(t:TA):TE:=λσ H Q=>t σ H λxs H1=>xs.length<=sizeLine/\∀ p,H1 p=none->Q (.ref p) (upd H1 p (.tup xs))
def x72(t:TA):TE:=λσ H Q=>t σ H λxs H1=>xs.length<=sizeLine/\∀ p,H1 p=none->Q (.ref p) (upd H1 p (.lst xs))
theorem G51{x1}(h:PA X es t):PE X (.Tuple es x1 pos) (C02 t):=by
 intro pins s σ H Q I hq;refine wpAny_Tuple_spliced (thn (h pos pins s σ H _ I hq) λus s1 ⟨xs,H1,I1,r,z,q⟩=>⟨by rw[← r.length];exact z,?_⟩)
 have hf:H1 s1.heap.objs.size=none:=I1.hok.fresh (É _);refine⟨.ref s1.heap.objs.size,upd H1 s1.heap.objs.size (.tup xs),I1.laid (t':=s1.toks) (λb u e=>Ã _ e) (É _) ?_,rfl,q _ hf⟩;exact⟨z,us,r,⟨_,Ì _ rfl,rfl,_,rfl⟩⟩
theorem G61(h:PA X es t):PE X (.List es pos) (x72 t):=by
 intro pins s σ H Q I hq;refine wpAny_List_spliced (thn (h pos pins s σ H _ I hq) λus s1 ⟨xs,H1,I1,r,z,q⟩=>⟨by rw[← r.length];exact z,?_⟩)
 have hf:H1 s1.heap.objs.size=none:=I1.hok.fresh (É _);refine⟨.ref s1.heap.objs.size,upd H1 s1.heap.objs.size (.lst xs),I1.laid (t':=s1.toks) (λb u e=>Ã _ e) (É _) ?_,rfl,q _ hf⟩;exact⟨z,us,0,r,Ì _ rfl⟩
end
abbrev Sp:=List V->Hp->VK->XK->Prop
abbrev CXT:=List Env->Hp->Å->XK->Ä->Å->Prop
structure k32(P:Program)(w:World)(K:PySem.W.Frag)(mg:Str->Option Value)(base:Heap)(A:Around)(outer:List Env)(s:Shared)(H:Hp):Prop where
 frames:A.frames=some outer
 mod:Mod K mg base
 bs:∀ b o,base.get? b=some o->s.heap.get? b=some o/\H b=none
 bsz:base.objs.size<=s.heap.objs.size
 v81:s.heap.FunFrames base outer
 frf:∀ b∈frs outer,H b=none
 hok:HOk P w H s.heap
 bare:AllBare s.gens
def CE(outer:List Env)(P:â)(w:õ)(H:Hp)(s:Å)(Q:VK)(u:Ä)(s':Å):Prop :=
 ∃ v H',s'.os=s.os/\Ò3 s'.gens/\Un (frs outer) [] H H' s.heap s'.heap/\HOk P w H' s'.heap/\RelV v u/\Q v H'
def CR(CX:CXT)(outer:List Env)(P:â)(w:õ)(H:Hp)(s:Å)(Q:VK)(E:XK)(r:Result)(s':Å):Prop :=
 match r with
 |.ok (.ret u)=>CE outer P w H s Q u s'|.ok _=>False|.error e=>CX outer H s E e s'
structure c11(P:Program)(w:World)(K:PySem.W.Frag)(mg:Str->Option Value)(base:Heap)(CX:CXT)(k:Nat)(f:Addr)(fd:FuncData)(ps:List Str)(sp:Sp):Prop where
 len:∀ vs H Q E,sp vs H Q E->vs.length=ps.length
 run:∀ (A:Around) (outer:List Env) (s:Shared) (H:Hp) (args:Args) (us:List Value) (vs:List V) (Q:VK) (E:XK),K60 k A->k32 P w K mg base A outer s H->BindsTo s fd args (ps.zip us)->Vals vs us->sp vs H Q E ->
  codeAny (model P w) A (.call (.ref f) args) (CR CX outer P w H s Q E) s
section
variable {X:Cx}{pins:List (Æ × Obj)}{σ:St}{H:Hp}{s s':Å}
theorem Inv.C12(I:Inv X pins σ H s):k32 X.prog X.w X.K X.mg X.base X.A X.stack s H :=
 ⟨I.ok.frames,I.ok.mod,I.bs,Ô I.ok.bsz I.sz,I.stack,I.Q40,I.hok,I.bare⟩
theorem Inv.after{Q:VK}{u:Ä}(I:Inv X pins σ H s)(h:CE X.stack X.prog X.w H s Q u s'):EP X pins σ Q u s':=by
 obtain⟨v,H',os,bare,un,hok,r,q⟩:=h;obtain⟨hh,g,d,t,os'⟩:=s';obtain rfl:os'=s.os:=os;exact⟨v,H',I.call (h':=hh) (g':=g) (d':=d) (t':=t) (ch:=[]) un hok bare (λb z=>absurd z (by simp)),r,q⟩
end
def o12(sp:Sp)(dvs:List V)(E:XK)(t:TA):TE:=λσ H Q=>t σ H λvs H1=>sp (vs++dvs) H1 Q E
def Binds(K:Â)(fd:É3)(ps:List Str)(ds:List Ä):Prop :=
 ∀ (s:Å) (us:List Ä),K.In s.heap->(us++ds).length=ps.length->BindsTo s fd ⟨us,[]⟩ (ps.zip (us++ds))
theorem Binds.all{K:Â}{fd:É3}{ps:List Str}(h:∀ us:List Ä,us.length=ps.length->bindArgs fd ⟨us,[]⟩=pure (ps.zip us)):Binds K fd ps []:=λs us _ hl=>by
 rw[append_nil] at hl ⊢;exact .of_eq (h us hl)
def Passes(CX:CXT)(X:Cx)(E:XK):Prop:=∀ (pins:List (Æ × Obj)) (σ:St) (H:Hp) (s:Å) (e:Ä) (s':Å),Inv X pins σ H s->CX X.stack H s E e s'->X.xe e s'
section
variable {X:Cx}{CX:CXT}{k:Nat}{f C:Æ}{fd:É3}{ps:List Str}{sp:Sp}{dvs:List V}{ds:List Ä}{E:XK}{x m:Str}{p pos apos:Pos}{e o:Î}{es:List Î}{ta:TE}{t:TA}
theorem Z01{pins:List (Æ × Obj)}{σ:St}{H:Hp}{s:Å}{Q:VK}{us:List Ä}{vs:List V}(F:c11 X.prog X.w X.K X.mg X.base CX k f fd ps sp)(hr:K60 k X.A)(hb:Binds X.K fd ps ds)(hd:Vals dvs ds)(hx:Passes CX X E)
  (I:Inv X pins σ H s) (r:Vals vs us) (h:sp (vs++dvs) H Q E):Ñ (Ø X.prog X.w) X.A (call (.ref f) us) (EP X pins σ Q) X.xe s:=by
 have r2:Vals (vs++dvs) (us++ds):=r.append hd;have hl:(us++ds).length=ps.length:=by rw[← r2.length];exact F.len _ _ _ _ h
 refine wpAny_call (Ñ9 (F.run X.A X.stack s H ⟨us,[]⟩ (us++ds) (vs++dvs) Q E hr I.C12 (hb s us I.kIn hl) r2 h) λr s' hq=>?_);cases r with
 |error e=>exact hx pins σ H s e s' I hq
 |ok fl =>
  cases fl with
  |ret u=>exact I.after hq|next=>exact Å1 hq
  |brk=>exact Å1 hq|cont=>exact Å1 hq
theorem K61(F:c11 X.prog X.w X.K X.mg X.base CX k f fd ps sp)(hr:K60 k X.A)(hg:Gl X x)(hm:X.mg x=some (.ref f))(hk:PySem.W.keepIn X.K (.ref f)=true)(hb:Binds X.K fd ps ds)(hd:Vals dvs ds)(hx:Passes CX X E)
  (ha:PA X (e::es) t) (hdb:(x == ("__debug__":Str))=false:=by decide) (he:û (e::es) X.env=(false,eval e X.env)::û es X.env:=by rfl) (hpl:(Ò0 pos (û es X.env)).any (·.1)=false:=by rfl) :
  PE X (.Call (.Name x p) (e::es) [] pos) (o12 sp dvs E t):=by
 intro pins s σ H Q I h;refine Ø6 (Q50 I hg hm ?_ hdb);refine PySem.W.callWith_K (h₀:=X.base) I.ok.mod.kin hk (thn (ha pos pins s σ H _ I h) λus s1 ⟨vs,H1,I1,r,q⟩=>⟨I1.kIn,?_⟩) he hpl;exact Z01 F hr hb hd hx I1 r q
end
structure p60(N P:List Str)(sc:Scope):Prop where
 kind:sc.kind=.function
 co:sc.isCoroutine=false
 gen:sc.isGenerator=false
 nd:N.Nodup
 pre:N.take P.length=P
 par:∀ x∈P,sc.names.lookup x=some .local∨sc.names.lookup x=some .cell
 nofree:∀ y∈sc.names,y.2≠.free
theorem K70{kindOf:Str->Option É2}{x:Str}:∀ {binds:List (Str × Ä)}{m:Str->Option Ä},(∀ v,(x,v) ∉ binds)->bindL kindOf binds m x=m x
 |[],_,_=>rfl
 |(n,v)::r,m,h=>by
  unfold bindL;rw[K70 λw hw=>h w (Í _ hw)];split
  ·have:x≠n:=by rintro rfl;exact h v Ë
   simp[this]
  ·rfl
theorem K80{kindOf:Str->Option É2}{x:Str}:∀ {binds:List (Str × Ä)}{m:Str->Option Ä},(∀ v,(x,v) ∉ binds)->bindC kindOf binds m x=m x
 |[],_,_=>rfl
 |(n,v)::r,m,h=>by
  unfold bindC;rw[K80 λw hw=>h w (Í _ hw)];split
  ·rfl
  ·have:x≠n:=by rintro rfl;exact h v Ë
   simp[this]
theorem K90{kindOf:Str->Option É2}{x:Str}{v:Ä}:∀ {P:List Str}{vs:List Ä}{i:Nat}{m:Str->Option Ä},P.Nodup->P[i]?=some x->vs[i]?=some v->kindOf x=some .local ->
  bindL kindOf (P.zip vs) m x=some v
 |[],_,_,_,_,h,_,_=>by simp at h|_::_,[],_,_,_,_,h,_=>by simp at h
 |p::P,w::vs,0,m,nd,h1,h2,hk=>by
  simp at h1 h2;subst h1;subst h2;show bindL kindOf ((p,w)::P.zip vs) m p=_;unfold bindL;rw[K70 λv hv=>(Ë4.mp nd).1 (of_mem_zip hv).1,if_pos hk];simp
 |p::P,w::vs,i + 1,m,nd,h1,h2,hk=>by
  show bindL kindOf ((p,w)::P.zip vs) m x=_;unfold bindL;exact K90 (i:=i) (Ë4.mp nd).2 (by simpa using h1) (by simpa using h2) hk
theorem L00{kindOf:Str->Option É2}{x:Str}{v:Ä}:∀ {P:List Str}{vs:List Ä}{i:Nat}{m:Str->Option Ä},P.Nodup->P[i]?=some x->vs[i]?=some v->kindOf x≠some .local ->
  bindC kindOf (P.zip vs) m x=some v
 |[],_,_,_,_,h,_,_=>by simp at h|_::_,[],_,_,_,_,h,_=>by simp at h
 |p::P,w::vs,0,m,nd,h1,h2,hk=>by
  simp at h1 h2;subst h1;subst h2;show bindC kindOf ((p,w)::P.zip vs) m p=_;unfold bindC;rw[K80 λv hv=>(Ë4.mp nd).1 (of_mem_zip hv).1,if_neg hk];simp
 |p::P,w::vs,i + 1,m,nd,h1,h2,hk=>by
  show bindC kindOf ((p,w)::P.zip vs) m x=_;unfold bindC;exact L00 (i:=i) (Ë4.mp nd).2 (by simpa using h1) (by simpa using h2) hk
def start(N:List Str)(vs:List V):St:=vs.map some++ë (N.length - vs.length) none
def L10(CX:CXT)(P:â)(w:õ)(K:Â)(mg:Str->Option Ä)(base:ï)(N:List Str)(qual:Str)(scope:À3)(f:Æ)(cd:Ä)(A:ü)(outer:List Env)(s:Å)(H:Hp)(E:XK):Cx where
 prog:=P
 w:=w
 K:=K
 mg:=mg
 base:=base
 A:=A.deeper (Õ1 qual scope s.heap.objs.size f cd)
 N:=N
 s₀:=s
 H₀:=H
 env:=Õ1 qual scope s.heap.objs.size f cd
 outer:=outer
 stack:=Õ1 qual scope s.heap.objs.size f cd::outer
 ex:=[]
 calm:=true
 fn:=λ_=>true
 pn:=[]
 xe:=λe s'=>Ñ (Ø P w) (A.deeper (Õ1 qual scope s.heap.objs.size f cd)) (leaving (Õ1 qual scope s.heap.objs.size f cd) e) (λ_ s''=>CX outer H s E e s'') (λe' s''=>CX outer H s E e' s'') s'
theorem W00{sc:À3}{n:Nat}{x:Str}(h:sc.names.lookup x=some .cell):∃ c,(cellsFrom n sc.names []).lookup x=some c:=by
 have q:=Ü8 sc.names n [] (.inl h);exact Ü2.mp q
theorem h61{CX:CXT}{P:â}{w:õ}{K:Â}{mg:Str->Option Ä}{base:ï}{N ps:List Str}{qual:Str}{scope:À3}{f:Æ}{cd:Ä}{A:ü}{outer:List Env}{s s1:Å}{H:Hp}{E:XK}{us:List Ä}{vs:List V}
  (S:p60 N ps scope) (hd:A.handled=none) (e0:k32 P w K mg base A outer s H) (hl:vs.length=ps.length) (r:Vals vs us)
  (x:InCallC s s.heap.objs.size (bindL (Õ1 qual scope s.heap.objs.size f cd).kindOf (ps.zip us) λ_=>none) (cellsFrom (s.heap.objs.size + 1) scope.names []) (bindC (Õ1 qual scope s.heap.objs.size f cd).kindOf (ps.zip us) λ_=>none) s1) :
  Inv (L10 CX P w K mg base N qual scope f cd A outer s H E) [] (start N vs) H s1:=by
 have hpl:ps.length<=N.length:=by have:=congrArg Ù6 S.pre;rw[Ã7] at this;omega
 obtain⟨h1,tk,rfl,hk⟩:=x.done;have noA:∀ b:Æ,b ∉ (L10 CX P w K mg base N qual scope f cd A outer s H E).ex:=λb z=>absurd (show b∈([]:List Æ) from z) (by simp)
 refine⟨⟨e0.mod,S.kind,rfl,rfl,É _,λy z c h1 h2=>?_,λy hy=>?_,λy c _ h=>?_,λ_=>hd,ü.frames_deeper e0.frames,.inr ⟨rfl,rfl⟩,λb z=>absurd z (noA b),e0.bs,e0.bsz,λb _ _=>noA b,λb z=>absurd z (noA b),e0.v81,e0.frf⟩,
  rfl,e0.bare,Un.kept hk,⟨_,x.toInCall.ns,λi y v h1 h2 h3=>?_⟩,λy c h=>⟨_,x.cell y c h⟩,e0.hok.fresh (É _),λy c h=>?_,λp hp=>absurd (show p∈([]:List (Æ × Obj)) from hp) (by simp),e0.hok.kept hk,?_⟩
 ·exact name_of_addr x.apart (Å6 h1) (Å6 h2)
 ·have hy:scope.names.lookup y=some .cell∨scope.names.lookup y=some .free:=hy;rcases hy with hy | hy
  ·exact W00 hy
  ·exact absurd rfl (S.nofree _ (Å6 hy))
 ·exact Ì2 (x.above y c (Å6 h))
 ·have hi:i < vs.length:=by
   unfold start at h2;by_cases hi:i < vs.length
   ·exact hi
   ·rw[Ä0 (by simpa using hi)] at h2
    rw[Î8] at h2;split at h2 <;> cases h2
  have ha:vs[i]?=some v:=by
   unfold start at h2;rw[Í4 (by simpa using hi),Þ] at h2
   cases e:vs[i]? with
   |none=>rw[e] at h2;cases h2
   |some a=>rw[e] at h2;cases h2;rfl
  obtain⟨u,hu,rv⟩:=r.get ha;have hp:ps[i]?=some y:=by
   rw[← S.pre,List.getElem?_take_of_lt ∅];exact h1
  have ndP:ps.Nodup:=by rw[← S.pre];exact S.nd.sublist (List.take_sublist _ _)
  refine⟨u,rv,?_⟩;rcases S.par y (ê hp) with k | k
  ·exact .inl ⟨k,K90 ndP hp hu k⟩
  ·obtain⟨c,e⟩:=W00 (n:=s.heap.objs.size + 1) k;refine .inr ⟨.inl k,c,e,?_⟩;have q:=x.cell y c e;rw[L00 ndP hp hu (by show scope.names.lookup y≠_;rw[k];decide)] at q
   exact q
 ·exact e0.hok.fresh (Ì2 (x.above y c (Å6 h)))
 ·unfold start;show _=N.length;rw[À5,È,Þ6];omega
theorem o22{CX:CXT}{P:â}{w:õ}{K:Â}{mg:Str->Option Ä}{base:ï}{k:Nat}{f:Æ}{name qual:Str}{params:Arguments}{body:List Ã8}{scope:À3}{dV kV doc pm cdv ct oc:Ä}{an od:Option Æ}
  {osl:Array (Option Ä)}{N ps:List Str}{sp:Sp} (lk:K.lookup f=some ⟨oc,od,.func (fnOf name qual params body scope dV kV doc pm an cdv ct),osl⟩) (hcd:PySem.W.codeIn K cdv qual=true) (S:p60 N ps scope)
  (len:∀ vs H Q E,sp vs H Q E->vs.length=ps.length)
  (hbody:∀ (A:ü) (outer:List Env) (s:Å) (H:Hp) (vs:List V) (Q:VK) (E:XK),K60 k (A.deeper (Õ1 qual scope s.heap.objs.size f cdv))->sp vs H Q E ->
   ∃ t,PSs (L10 CX P w K mg base N qual scope f cdv A outer s H E) body t/\t { nx:=λ_ H'=>Q .non H',rt:=Q } (start N vs) H) :
  c11 P w K mg base CX (k + 1) f (fnOf name qual params body scope dV kV doc pm an cdv ct) ps sp:=by
 refine⟨len,λA outer s H args us vs Q E hr e0 hb r hsp=>?_⟩;have hl:=len _ _ _ _ hsp;have KX:K.In s.heap:=e0.mod.kin.keeps λb o e=>(e0.bs b o e).1;have lim:s.heap.NoLimit:=e0.mod.nolimit.keeps λb o e=>(e0.bs b o e).1;have hkind:∀ y∈ps.zip us,scope.names.lookup y.1=some .local∨(scope.names.lookup y.1=some .cell/\((cellsFrom (s.heap.objs.size + 1) scope.names []).lookup y.1).isSome=true):=λ⟨n,v⟩ hy=>by
  rcases S.par n (of_mem_zip hy).1 with q | q
  ·exact .inl q
  ·exact .inr ⟨q,Ü8 _ _ _ (.inl q)⟩
 refine codeAny_call_function hr.depth (KX _ _ lk) rfl S.co S.gen rfl (PySem.W.codeRec_of KX hcd) (hb _ _ _ _ ?_);refine wpAny_newFunctionEnv_cells S.kind hkind λenv he s1 x=>?_;subst he;refine⟨lim.keeps x.toInCall.keep,codeAny_func ?_⟩;obtain⟨t,ht,hq⟩:=hbody A outer s H vs Q E (hr.deeper _) hsp;have I:Inv (L10 CX P w K mg base N qual scope f cdv A outer s H E) [] (start N vs) H s1:=h61 S hr.hd e0 hl r x;refine Ä6 (ht [] s1 (start N vs) H _ I hq) (λfl s' hs=>?_) λe s' hs=>hs;have fin:∀ {σ':St}{H':Hp}{v:V}{u:Ä},Inv (L10 CX P w K mg base N qual scope f cdv A outer s H E) [] σ' H' s'->RelV v u->Q v H'->CE outer P w H s Q u s' :=
  λ{σ' H' v u} J rv q=>⟨v,H',J.os,J.bare,J.base,J.hok,rv,q⟩
 cases fl with
 |ret u =>
  obtain⟨v,σ',H',J,rv,q⟩:=hs;exact fin J rv q
 |next =>
  obtain⟨σ',H',J,q⟩:=hs;exact fin (v:=V.non) (u:=á) J rfl q
 |brk =>
  obtain⟨_,_,_,q⟩:=hs;exact Å1 q
 |cont =>
  obtain⟨_,_,_,q⟩:=hs;exact Å1 q
section
variable {X:Cx}{x:Str}{p pos:Pos}{e:Î}{es:List Î}{t:TA}{id T:String}{r:List V->Hp->VK->Prop}
def tCB(r:List V->Hp->VK->Prop)(t:TA):TE:=λσ H Q=>t σ H λvs H1=>r vs H1 Q
theorem E90(hc:f00 X (.builtin id) r)(hg:Gl X x)(hm:X.mg x=none)(hv:ì x=some (.builtin id))(ha:PA X (e::es) t)(hn:x≠"__name__":=by decide)(hdb:(x == ("__debug__":Str))=false:=by decide)
  (he:û (e::es) X.env=(false,eval e X.env)::û es X.env:=by rfl) (hpl:(Ò0 pos (û es X.env)).any (·.1)=false:=by rfl):PE X (.Call (.Name x p) (e::es) [] pos) (tCB r t):=by
 intro pins s σ H Q I h;refine Ø6 (r40 I hg hm hv ?_ hn hdb);exact PyProof.Rows.callWith_builtin1 (thn (ha pos pins s σ H _ I h) λus s1 ⟨vs,H1,I1,r1,q1⟩=>hc pins s1 σ H1 vs us Q I1 r1 q1) he hpl
theorem L20(hc:f00 X (.type T) r)(hg:Gl X x)(hm:X.mg x=none)(hv:ì x=some (.type T))(ha:PA X (e::es) t)(hn:x≠"__name__":=by decide)(hdb:(x == ("__debug__":Str))=false:=by decide)
  (he:û (e::es) X.env=(false,eval e X.env)::û es X.env:=by rfl) (hpl:(Ò0 pos (û es X.env)).any (·.1)=false:=by rfl):PE X (.Call (.Name x p) (e::es) [] pos) (tCB r t):=by
 intro pins s σ H Q I h;refine Ø6 (r40 I hg hm hv ?_ hn hdb);exact À0 (thn (ha pos pins s σ H _ I h) λus s1 ⟨vs,H1,I1,r1,q1⟩=>hc pins s1 σ H1 vs us Q I1 r1 q1) he hpl
end
end L2
namespace HT
open PySem PyProof.Rows
theorem x11(A:ü)(s:Å)(a:Int)(t:Tok)(c:Int)(u:Tok):∃ e,Ó9 A s (.int a t) (.int c u) e/\(e=true↔a=c) :=
 ⟨(a == c),Ó9.int_int a t c u,by simp⟩
theorem W10(A:ü)(s:Å)(a:Int)(t:Tok)(c:Int)(u:Tok)(prog:â)(w:õ)(E:Ä->Å->Prop)(Q:Ä->Å->Prop)(h:Q (.bool (decide (a < c))) s) :
  Ñ (Ø prog w) A (richCompare .Lt (.int a t) (.int c u)) Q E s :=
 (lt_int h:Ñ (Ø prog w) A (ö .Lt (.int a t) (.int c u)) Q E s)
section
variable {prog:â}{w:õ}{A:ü}{E:Ä->Å->Prop}{s:Å}
theorem K71{t b:Æ}{vs ws:List Ä}{Q:Ä->Å->Prop}(ht:Ì3 s.heap t vs.toArray)(hb:Ì3 s.heap b ws.toArray)(hv:vs≠[])
  (h1:ws=[]->Q (.ref t) s) (h2:ws≠[]->Q (.ref s.heap.objs.size) { s with heap:=s.heap.push { cls:=.type "tuple",data:=.seq (vs++ws).toArray } })
  (hsz:vs.length + ws.length<=sizeLine):Ñ (Ø prog w) A (Â6 .Add (.ref t) (.ref b)) Q E s:=by
 obtain⟨⟨cls,dd,data,sl⟩,ho,hc,n,hd⟩:=id ht;obtain⟨⟨cls2,dd2,data2,sl2⟩,ho2,hc2,n2,hd2⟩:=id hb;simp only at hc hd hc2 hd2;subst hc hd hc2 hd2;have e:vs.toArray++ws.toArray=(vs++ws).toArray:=by simp
 by_cases hw:ws=[]
 ·exact concat_meets ⟨_,ho,rfl⟩ ⟨_,ho2,rfl⟩ Ü6 seq_tuple_add Î5 Í7 (Ì8 _ _)
   (tuple_addW1 t b vs.toArray ws.toArray n n2 dd dd2 sl sl2 (by simpa using hv) (by simp[hw])) ⟨ho,ho2,h1 hw⟩
 ·refine concat_meets ⟨_,ho,rfl⟩ ⟨_,ho2,rfl⟩ Ü6 seq_tuple_add Î5 Í7 (Ì8 _ _)
   (tuple_addW2 t b vs.toArray ws.toArray n n2 dd dd2 sl sl2 (by simpa using hv) (by simpa using hw) (by rw[Ó,Ó];exact hsz)) ⟨ho,ho2,?_⟩
  rw[e];exact h2 hw
def sIx(n d:Nat):Option Int->Nat
 |none=>d|some v=>if v < 0 then(v + (n:Int)).toNat else min v.toNat n
theorem h71(n d k:Nat):sIx n d (some (k:Int))=min k n:=by
 show(if (k:Int) < 0 then((k:Int) + (n:Int)).toNat else min (k:Int).toNat n)=min k n;rw[if_neg ∅,Â7]
theorem Z11(n d:Nat)(hd:d<=n)(o:Option Int):sIx n d o<=n:=by
 cases o with
 |none=>exact hd
 |some v =>
  show(if v < 0 then(v + (n:Int)).toNat else min v.toNat n)<=n;by_cases hv:v < 0
  ·rw[if_pos hv];omega
  ·rw[if_neg hv];exact Nat.min_le_right _ _
theorem h81(v:Int)(n d:Nat):(if v < 0 then max (v + (n:Int)) 0 else min v (n:Int))=((sIx n d (some v):Nat):Int):=by
 show(if v < 0 then max (v + (n:Int)) 0 else min v (n:Int))=(((if v < 0 then(v + (n:Int)).toNat else min v.toNat n):Nat):Int);by_cases hv:v < 0
 ·simp only[if_pos hv];omega
 ·simp only[if_neg hv];omega
theorem c21(lo hi:Option Int)(n:Nat):Ë1 lo hi 1 (n:Int)=(((sIx n 0 lo:Nat):Int),((sIx n n hi:Nat):Int)):=by
 have h1:¬ ((1:Int) < 0):=by omega
 unfold Ë1;simp only[h1,if_false];refine Prod.ext ?_ ?_
 ·cases lo with
  |none=>rfl|some v=>exact h81 v n 0
 ·cases hi with
  |none=>rfl|some v=>exact h81 v n n
theorem c31(i j:Nat):Ç7 (i:Int) (j:Int) 1=j - i:=by
 unfold Ç7;have h1:(1:Int) > 0:=by omega
 simp only[h1,if_true,Int.ediv_one];split <;> omega
theorem C80{v:Ä}{o:Option Int}{Q:Option Int->Å->Prop}(p:Õ4 v o)(h:Q o s):Ñ (Ø prog w) A (Â0.Slice.slicePartIndex v) Q E s:=by
 cases p with
 |none=>exact Ô9 h|int i t=>exact slicePart_int h
theorem l70{sl:Æ}{vl vu:Ä}{lo hi:Option Int}{n:Nat}{Q:Int × Int × Nat->Å->Prop}(hs:s.heap.IsSliceOf sl vl vu .none)(pl:Õ4 vl lo)(pu:Õ4 vu hi)
  (h:Q (((sIx n 0 lo:Nat):Int),1,sIx n n hi - sIx n 0 lo) s):Ñ (Ø prog w) A (Ð2 (.ref sl) (pure (n:Int))) Q E s:=by
 obtain⟨os,hos,hcs,hds⟩:=id hs;unfold Ð2 sliceFields;refine À (À (À7 hos hds (x:=vl) rfl (À (À7 hos hds (x:=vu) rfl (À (À7 hos hds (x:=.none) rfl (Ç ?_)))))));refine À (Ô9 ?_);show Ñ _ _ (if ((1:Int) == 0)=true then _ else _) _ _ s;rw[if_neg (-0)]
 refine À (C80 pl (À (C80 pu (À (Ç ?_)))));show Ñ _ _ (match Ë1 lo hi 1 (n:Int) with | (lo,hi)=>pure (lo,(1:Int),Ç7 lo hi 1)) _ _ s
 rw[c21 lo hi n];show Ñ _ _ (pure (((sIx n 0 lo:Nat):Int),(1:Int),Ç7 ((sIx n 0 lo:Nat):Int) ((sIx n n hi:Nat):Int) 1)) _ _ s;rw[c31];exact Ç h
theorem x21(xs:Array Ä)(i k:Nat):((í k).filterMap λ(m:Nat)=>xs[((i:Int) + (m:Int) * 1).toNat]?).toArray=((xs.toList.drop i).take k).toArray:=by
 have e:(λ(m:Nat)=>xs[((i:Int) + (m:Int) * 1).toNat]?)=λm=>xs[i + m]?:=by
  funext m
  have:((i:Int) + (m:Int) * 1).toNat=i + m:=by omega
  rw[this]
 rw[e];have:=pick_run xs i k;rw[List.filterMap_map] at this;have e2:((λx=>xs[x]?) ∘ λx=>i + x)=λm=>xs[i + m]?:=rfl;rw[e2] at this;rw[this]
theorem u10{t sl:Æ}{items:Array Ä}{vl vu:Ä}{lo hi:Option Int}{Q:Ä->Å->Prop}(ht:Ì3 s.heap t items)(hs:s.heap.IsSliceOf sl vl vu .none)(pl:Õ4 vl lo)(pu:Õ4 vu hi)
  (hw:¬ (sIx items.size 0 lo=0/\sIx items.size items.size hi=items.size))
  (h:Q (.ref s.heap.objs.size) { s with heap:=s.heap.push { cls:=.type "tuple",data:=.seq ((items.toList.drop (sIx items.size 0 lo)).take (sIx items.size items.size hi - sIx items.size 0 lo)).toArray } })
  (hsz:items.size<=sizeLine):Ñ (Ø prog w) A (Ï5 (.ref t) (.ref sl)) Q E s:=by
 have htake:sizeOk (.seq ((items.toList.drop (sIx items.size 0 lo)).take (sIx items.size items.size hi - sIx items.size 0 lo)).toArray):=by
  show((items.toList.drop (sIx items.size 0 lo)).take (sIx items.size items.size hi - sIx items.size 0 lo)).toArray.size<=sizeLine;rw[Ó,Ã7,Ë2,È7];omega
 have hj:sIx items.size items.size hi<=items.size:=Z11 _ _ (É _) hi;obtain⟨os,hos,hcs,hds⟩:=id hs;have hTs:s.TypeIs (.ref sl) "slice":=⟨os,hos,hcs⟩;unfold Ï5
 try with_reducible refine Ã1 ?_
 first | refine À (Ç ?_) | skip
 refine À (Ú3 ht.typeIs (-0) ?_)
 refine À (Á8 (name:=ç "__getitem__") ht.typeIs ò
  (Â8 ò ht.typeIs entry_tuple_getitem ?_ (Ù1 _ _)))
 show Ñ _ _ (tupleItemsOf (.ref t) >>= _) _ _ s;refine À (tupleItemsOf_ ht ?_);refine À (Æ5 hTs ?_);rw[if_pos (-0)]
 refine À (l70 hs pl pu ?_);have hno:¬ ((((sIx items.size 0 lo:Nat):Int) == 0&&(1:Int) == 1&&(sIx items.size items.size hi - sIx items.size 0 lo) == items.size)=true):=by
  intro q;rw[Á,Á] at q;have q1:((sIx items.size 0 lo:Nat):Int)=0:=eq_of_beq q.1.1;have q2:sIx items.size items.size hi - sIx items.size 0 lo=items.size:=eq_of_beq q.2;exact hw ⟨by omega,by omega⟩
 show Ñ _ _ (if (((sIx items.size 0 lo:Nat):Int) == 0&&(1:Int) == 1&&(sIx items.size items.size hi - sIx items.size 0 lo) == items.size)=true then _ else _) _ _ s;rw[if_neg hno,x21]
 first
  |exact À (m:=Å4 _) (î (Ç ⟨_,rfl,Ç h⟩) htake)
  |exact À (m:=Å4 _) (î (À (Ç (Ç ⟨_,rfl,Ç h⟩))) htake)
  |exact À (À (m:=Å4 _) (î (Ç (Ç ⟨_,rfl,Ç h⟩)) htake))
  |exact À (À (m:=Å4 _) (î (Ç ⟨_,rfl,Ç h⟩) htake))
end
end HT
namespace L2
open PySem PySem.Spec PyProof.Rows
abbrev TO:=St->Hp->(Option Int->Hp->Prop)->Prop
def PO(X:Cx)(e:Option Î)(t:TO):Prop :=
 ∀ (pins:List (Æ × Obj)) (s:Å) (σ:St) (H:Hp) (Q:Option Int->Hp->Prop),Inv X pins σ H s->t σ H Q ->
  Ñ (Ø X.prog X.w) X.A (evalPart e X.env) (λu s'=>∃ o H',Inv X pins σ H' s'/\Õ4 u o/\Q o H') X.xe s
def K81:TO:=λ_ H Q=>Q none H
def o32(t:TE):TO:=λσ H Q=>t σ H λx H1=>∃ i,x=.int i/\Q (some i) H1
theorem intsAre_of{ns:List Int}:∀ {us:List Ä},Vals (ns.map V.int) us->É4 us ns:=by
 induction ns with
 |nil=>intro us r;rw[map_nil] at r;cases r;exact .nil
 |cons n ns ih =>
  intro us r;rw[Ã5] at r;cases r with
  |cons r1 r2 =>
   obtain⟨t,e⟩:=r1;subst e;exact .cons n t (ih r2)
section
variable {X:Cx}{e:Î}{te:TE}{lo hi:Option Î}{tl th:TO}{pos p2:Pos}
theorem K91:PO X none K81:=by
 intro pins s σ H Q I h;rw[evalPart_none];exact Ç ⟨none,H,I,.none,h⟩
theorem L01(h:PE X e te):PO X (some e) (o32 te):=by
 intro pins s σ H Q I hw;rw[evalPart_some];refine thn (h pins s σ H _ I hw) λu s1 ⟨x,H1,I1,r1,q1⟩=>?_;obtain⟨i,rfl,q⟩:=q1;obtain⟨t,rfl⟩:=r1;exact⟨some i,H1,I1,.int i t,q⟩
def SlR(X:Cx)(r:V->Option Int->Option Int->Hp->VK->Prop):Prop :=
 ∀ (pins:List (Æ × Obj)) (s:Å) (σ:St) (H:Hp) (x:V) (v vl vu:Ä) (lo hi:Option Int) (sl:Æ) (Q:VK),Inv X pins σ H s->RelV x v->s.heap.IsSliceOf sl vl vu .none->Õ4 vl lo->Õ4 vu hi->r x lo hi H Q ->
  ∃ T id,typeLookup (.type T) "__getitem__"=pure (some (.builtin id))/\s.TypeIs v T/\Ñ (Ø X.prog X.w) X.A (Ï5 v (.ref sl)) (EP X pins σ Q) X.xe s
def tSl(r:V->Option Int->Option Int->Hp->VK->Prop)(te:TE)(tl th:TO):TE:=λσ H Q=>te σ H λx H1=>tl σ H1 λl H2=>th σ H2 λu H3=>r x l u H3 Q
theorem x31{r:V->Option Int->Option Int->Hp->VK->Prop}(hr:SlR X r)(he:PE X e te)(hl:PO X lo tl)(hu:PO X hi th):PE X (.Subscript e (.Slice lo hi none p2) pos) (tSl r te tl th):=by
 intro pins s σ H Q I h;refine Subscript_ (thn (he pins s σ H _ I h) λv s1 ⟨x,H1,I1,r1,q1⟩=>?_);refine wpAny_Slice (thn (hl pins s1 σ H1 _ I1 q1) λvl s2 ⟨l,H2,I2,pl,q2⟩=>thn (hu pins s2 σ H2 _ I2 q2) λvu s3 ⟨u,H3,I3,pu,q3⟩=>?_);rw[evalPart_none];refine Ç ?_;have I4:Inv X pins σ H3 { s3 with heap:=s3.heap.push { cls:=.type "slice",data:=.fields #[vl,vu,.none] } }:=I3.kept (t':=s3.toks) λb ob q=>Ã _ q;obtain⟨T,id,hT,ht,hg⟩:=hr pins { s3 with heap:=s3.heap.push { cls:=.type "slice",data:=.fields #[vl,vu,.none] } } σ H3 x v vl vu l u s3.heap.objs.size Q I4 r1 (Ï0 ..) pl pu q3;show Ñ (Ø X.prog X.w) X.A (subscriptTail e (.Slice lo hi none p2) v (.ref s3.heap.objs.size)) (EP X pins σ Q) X.xe { s3 with heap:=s3.heap.push { cls:=.type "slice",data:=.fields #[vl,vu,.none] } };exact tail_any (ops:=[.ref s3.heap.objs.size,v]) ht hT hg (by with_unfolding_all rfl)
def x41(xs:List V)(lo hi:Option Int):List V:=(xs.drop (HT.sIx xs.length 0 lo)).take (HT.sIx xs.length xs.length hi - HT.sIx xs.length 0 lo)
theorem z00(xs:List V)(lo hi:Option Int):(x41 xs lo hi).length<=xs.length:=by
 unfold x41;rw[Ã7,Ë2];omega
theorem Vals.F00{xs:List V}{us:List Ä}(r:Vals xs us):us=[]↔xs=[]:=by
 cases r with
 |nil=>simp|cons _ _=>simp
end
def ixN(n:Nat)(i:Int):Option Nat:=if 0<=i then(if i < n then some i.toNat else none) else if -(n:Int)<=i then some (i + n).toNat else none
def atI{α:Type}(xs:List α)(i:Int):Option α:=(ixN xs.length i).bind λj=>xs[j]?
theorem h91{n:Nat}{i:Int}{j:Nat}(h:ixN n i=some j):seqIndex? i n=some j/\j < n/\-(n:Int)<=i/\i < n:=by
 unfold ixN at h;by_cases h0:0<=i
 ·rw[if_pos h0] at h;by_cases h1:i < n
  ·rw[if_pos h1] at h;have e:i.toNat=j:=Á4 h;exact⟨by rw[seqIndex_of h0 h1,e],by omega,by omega,h1⟩
  ·rw[if_neg h1] at h;cases h
 ·rw[if_neg h0] at h;by_cases h1:-(n:Int)<=i
  ·rw[if_pos h1] at h;have e:(i + n).toNat=j:=Á4 h;exact⟨by rw[seqIndex_neg ∅ h1,e],by omega,h1,by omega⟩
  ·rw[if_neg h1] at h;cases h
theorem i01{α:Type}{xs:List α}{i:Int}{v:α}(h:atI xs i=some v):∃ j,seqIndex? i xs.length=some j/\xs[j]?=some v/\j < xs.length/\-(xs.length:Int)<=i/\i < xs.length:=by
 unfold atI at h;cases e:ixN xs.length i with
 |none=>rw[e] at h;cases h
 |some j =>
  rw[e] at h;obtain⟨h1,h2,h3,h4⟩:=h91 e;exact⟨j,h1,h,h2,h3,h4⟩
theorem Q90{α:Type}{xs:List α}{j:Nat}{v:α}(h:xs[j]?=some v):atI xs (j:Int)=some v:=by
 have hj:j < xs.length:=(ä.mp h).1;have e:ixN xs.length (j:Int)=some j:=by
  unfold ixN;rw[if_pos ∅,if_pos ∅];simp
 unfold atI;rw[e];exact h
def i11(b:Î):Prop:=∀ o i,subscripted b false o i=operate [o,i] (Ï5 o i)
def IxR(X:Cx)(r:R2):Prop :=
 ∀ (value slice:Î) (pins:List (Æ × Obj)) (s:Å) (σ:St) (H:Hp) (x y:V) (v u:Ä) (Q:VK),Inv X pins σ H s->RelV x v->RelV y u->r x y H Q ->
  subscripted slice false v u=operate [v,u] (Ï5 v u)->Ñ (Ø X.prog X.w) X.A (subscriptTail value slice v u) (EP X pins σ Q) X.xe s
def MtR(X:Cx)(id:String)(r:V->List V->Hp->VK->Prop):Prop :=
 ∀ (pins:List (Æ × Obj)) (s:Å) (σ:St) (H:Hp) (x:V) (xs:List V) (v:Ä) (us:List Ä) (Q:VK),Inv X pins σ H s->RelV x v->Vals xs us->r x xs H Q ->
  Ñ (Ø X.prog X.w) X.A (call (.builtin id) (v::us)) (EP X pins σ Q) X.xe s
section
variable {X:Cx}{a b:Î}{ta tb:TE}{pos:Pos}
theorem Z21{r:R2}(hr:IxR X r)(ha:PE X a ta)(hb:PE X b tb)(hs:i11 b):PE X (.Subscript a b pos) (tOp r ta tb):=by
 intro pins s σ H Q I h;exact Subscript_ (n32 ha hb I h λv u s2 x y H2 I2 rx ry q=>hr a b pins s2 σ H2 x y v u Q I2 rx ry q (hs _ _))
def C22(K:Â):R2:=λx y H Q=>∃ p xs i v,x=.ref p/\y=.int i/\SqL K H p xs/\atI xs i=some v/\Q v H
def C32(K:Â):R2:=λx y H Q=>∃ p xs i v,x=.ref p/\y=.int i/\SqT K H p xs/\atI xs i=some v/\Q v H
theorem i21:IxR X (C22 X.K):=by
 intro value slice pins s σ H x y v u Q I rx ry h hs;obtain⟨p,xs,i,z,rfl,rfl,hq,he,q⟩:=h;cases rx;obtain⟨t,rfl⟩:=ry;obtain⟨its,r,pl,hz⟩:=I.list hq;obtain⟨j,h1,h2,h3,h4,h5⟩:=i01 he;obtain⟨w,ew,rw'⟩:=r.get h2;have hl:=r.length;have hn:=V90;have fin:EP X pins σ Q w s:=⟨z,H,I,rw',q⟩;by_cases h0:0<=i
 ·have hj:i.toNat=j:=by
   rw[seqIndex_of h0 h5] at h1;exact Á4 h1
  exact item_listR pl.isList h0 ∅ (by rw[hj];simpa using ew) fin hs
 ·have hj:(i + (its.toArray.size:Int)).toNat=j:=by
   rw[seqIndex_neg ∅ h4] at h1
   rw[Ó,← hl];exact Á4 h1
  exact subscriptTail_builtinR (x:=w) pl.isList.typeIs slot_list_getitem.lookup
   (wpAny_getItem_list_neg (Q:=λr s'=>r=w/\EP X pins σ Q r s') pl.isList ∅ (by rw[Ó] <;> omega) ∅ (by rw[hj];simpa using ew) ⟨rfl,fin⟩) hs
theorem Z31:IxR X (C32 X.K):=by
 intro value slice pins s σ H x y v u Q I rx ry h hs;obtain⟨p,xs,i,z,rfl,rfl,hq,he,q⟩:=h;cases rx;obtain⟨t,rfl⟩:=ry;obtain⟨its,r,pl,hz⟩:=I.tuple hq;obtain⟨j,h1,h2,h3,h4,h5⟩:=i01 he;obtain⟨w,ew,rw'⟩:=r.get h2;have hl:=r.length;have hn:=V90;have fin:EP X pins σ Q w s:=⟨z,H,I,rw',q⟩;exact subscriptTail_builtinR (x:=w) pl.typeIs slot_tuple_getitem.lookup
  (getItem_tuple (j:=j) (Q:=λr s'=>r=w/\EP X pins σ Q r s') pl ∅ ∅ (by rw[Ó,← hl];exact h1) (by simpa using ew) ⟨rfl,fin⟩) hs
theorem c41(its:List Ä)(n j:Nat)(u:Ä):Á2 (·.setIfInBounds j u) { cls:=.type "list",data:=.seq its.toArray n }={ cls:=.type "list",data:=.seq (its.set j u).toArray n }:=by
 simp[Á2]
theorem Inv.lst{pins:List (Æ × Obj)}{σ:St}{H:Hp}{s:Å}{p:Æ}{xs:List V}(I:Inv X pins σ H s)(h:H p=some (.lst xs)) :
  ∃ (its:List Ä) (n:Nat),Vals xs its/\s.heap.get? p=some { cls:=.type "list",data:=.seq its.toArray n }/\xs.length<=sizeLine:=by
 obtain⟨z,its,n,r,e⟩:=I.hok p _ h;exact⟨its,n,r,e,z⟩
theorem Inv.Z41{pins:List (Æ × Obj)}{σ:St}{H:Hp}{s:Å}{p:Æ}{xs ys:List V}{its its':List Ä}{n n':Nat}{f:Obj->Obj}(I:Inv X pins σ H s)(h:H p=some (.lst xs))
  (ho:s.heap.get? p=some { cls:=.type "list",data:=.seq its.toArray n }) (hf:f { cls:=.type "list",data:=.seq its.toArray n }={ cls:=.type "list",data:=.seq its'.toArray n' }) (r:Vals ys its') (hz:ys.length<=sizeLine) (t:Nat) :
  Inv X pins σ (upd H p (.lst ys)) { s with heap:=s.heap.update p f,toks:=t }:=by
 have e:(s.heap.update p f).get? p=some { cls:=.type "list",data:=.seq its'.toArray n' }:=by
  rw[Ð8 f ho (by rw[hf] <;> rfl),hf]
 refine I.write (x:=p) (e:=p) (by rw[h];trivial) (.inl rfl) (λb u hb q=>(Þ2 _ _ (À1 hb)).trans q) ⟨_,e⟩ ?_
 exact⟨hz,its',n',r,e⟩
def o42:V->V->V->Hp->(Hp->Prop)->Prop:=λo i v H Q=>∃ p xs k j,o=.ref p/\i=.int k/\H p=some (.lst xs)/\ixN xs.length k=some j/\Q (upd H p (.lst (xs.set j v)))
theorem set_list:m52 X o42:=by
 intro pins s σ H o i v ov iv u Q I ro ri rv h;obtain⟨p,xs,k,j,rfl,rfl,hp,hj,q⟩:=h;cases ro;obtain⟨t,rfl⟩:=ri;obtain⟨its,n,r,ho,hz⟩:=I.lst hp;obtain⟨h1,h2,h3,h4⟩:=h91 hj;have hl:=r.length;have hn:=V90;have I':Inv X pins σ (upd H p (.lst (xs.set j v))) { s with heap:=s.heap.update p (Á2 (·.setIfInBounds j u)) } :=
  I.Z41 hp ho (c41 its n j u) (r.set rv j) (by rw[À6];exact hz) s.toks
 by_cases h0:0<=k
 ·have hk:k.toNat=j:=by
   rw[seqIndex_of h0 h4] at h1;exact Á4 h1
  exact PySem.W.ki_setAt ho h0 ∅ (by rw[Ó,← hl];exact h4) (by rw[hk];exact⟨_,I',q⟩)
 ·have hk:(k + (its.toArray.size:Int)).toNat=j:=by
   rw[seqIndex_neg ∅ h3] at h1
   rw[Ó,← hl];exact Á4 h1
  exact PySem.W.ki_setBack ho ∅ (by rw[Ó,← hl];exact h3) ∅ (by rw[hk];exact⟨_,I',q⟩)
theorem L30(lo hi:Option Int)(n:Nat):(Ì0 lo hi none n).1=((HT.sIx n 0 lo:Nat):Int)/\(Ì0 lo hi none n).2.1=((HT.sIx n n hi:Nat):Int)/\(Ì0 lo hi none n).2.2=1:=by
 refine⟨?_,?_,rfl⟩
 ·cases lo with
  |none=>simp[Ì0,HT.sIx]
  |some i =>
   simp only[Ì0,HT.sIx,getD_none,show(1:Int) > 0 by decide,if_true]
   by_cases h:i < 0
   ·simp only[h,if_true] <;> omega
   ·simp only[h,if_false] <;> omega
 ·cases hi with
  |none=>simp[Ì0,HT.sIx]
  |some i =>
   simp only[Ì0,HT.sIx,getD_none,show(1:Int) > 0 by decide,if_true]
   by_cases h:i < 0
   ·simp only[h,if_true] <;> omega
   ·simp only[h,if_false] <;> omega
theorem F10(its:List Ä)(lo hi:Option Int):slicePick its.toArray lo hi none=((its.drop (HT.sIx its.length 0 lo)).take (HT.sIx its.length its.length hi - HT.sIx its.length 0 lo)).toArray:=by
 obtain⟨h1,h2,h3⟩:=L30 lo hi its.toArray.size;unfold slicePick;rw[h1,h2,h3];simp only[sliceRange_one,pick_run,Ó] <;> rfl
def C42(K:Â):V->Option Int->Option Int->Hp->VK->Prop:=λx lo hi H Q=>∃ a xs,x=.ref a/\SqL K H a xs/\∀ p,H p=none->Q (.ref p) (upd H p (.lst (x41 xs lo hi)))
theorem L11:SlR X (C42 X.K):=by
 intro pins s σ H x v vl vu lo hi sl Q I rx hs pl pu h;obtain⟨a,xs,rfl,hx,q⟩:=h;cases rx;obtain⟨its,r,ht,hz⟩:=I.list hx;have hlen:=r.length;refine⟨"list",_,slot_list_getitem.lookup,ht.isList.typeIs,?_⟩;refine wpAny_getItem_list_slice ht.isList hs pl pu .none (by simp) ?_ (by rw[Ó] <;> omega)
 rw[F10,← hlen];refine⟨.ref s.heap.objs.size,_,I.laid (t':=s.toks) (o:=.lst (x41 xs lo hi)) (λb ob q=>Ã _ q) (É _) ?_,rfl,q _ (I.hok.fresh (É _))⟩;exact⟨Ô (z00 xs lo hi) hz,_,0,(r.drop (HT.sIx xs.length 0 lo)).take (HT.sIx xs.length xs.length hi - HT.sIx xs.length 0 lo),Ì _ rfl⟩
theorem L40:f00 X (.builtin "len") (λxs H Q=>∃ p ys,xs=[.ref p]/\(SqL X.K H p ys∨SqT X.K H p ys)/\Q (.int ys.length) H):=by
 intro pins s σ H xs us Q I r h;obtain⟨p,ys,rfl,hq,q⟩:=h;obtain⟨u,rfl,rx⟩:=vals1 r;cases rx;have hn:=V90;rcases hq with hq | hq
 ·obtain⟨its,r',pl,hz⟩:=I.list hq;have hlen:=r'.length;exact Calls.call_len_list pl.isList (by simp only[Ó] <;> omega) ⟨.int ys.length,H,I.tok _,⟨s.toks + 1,by rw[Ó,hlen]⟩,q⟩
 ·obtain⟨its,r',pl,hz⟩:=I.tuple hq;have hlen:=r'.length;exact len_tuple pl (by simp only[Ó] <;> omega) ⟨.int ys.length,H,I.tok _,⟨s.toks + 1,by rw[Ó,hlen]⟩,q⟩
theorem L50:f00 X (.type "list") (λxs H Q=>∃ p ys,xs=[.ref p]/\(SqL X.K H p ys∨SqT X.K H p ys)/\∀ l,H l=none->Q (.ref l) (upd H l (.lst ys))):=by
 intro pins s σ H xs us Q I r h;obtain⟨p,ys,rfl,hq,q⟩:=h;obtain⟨u,rfl,rx⟩:=vals1 r;cases rx;have fin:∀ (its:List Ä),Vals ys its->ys.length<=sizeLine->∀ (h':ï) (c':Nat),(∀ b o',s.heap.get? b=some o'->h'.get? b=some o') ->
   h'.get? s.heap.objs.size=some { cls:=.type "list",dict:=none,data:=.seq its.toArray c',slots:=#[] }->EP X pins σ Q (.ref s.heap.objs.size) { s with heap:=h' }:=λits r' hz h' c' kp e =>
  ⟨.ref s.heap.objs.size,_,I.laid (t':=s.toks) kp (É _) (show h40 X.prog X.w _ h' _ (.lst ys) from⟨hz,its,c',r',e⟩),rfl,q _ (I.hok.fresh (É _))⟩
 rcases hq with hq | hq
 ·obtain⟨its,r',pl,hz⟩:=I.list hq;have hlen:=r'.length;obtain⟨o,ho,hc,n,hd⟩:=pl.isList;exact call_list_seq p (.inl rfl) ho hc hd (λh' c' kp e=>fin its r' hz h' c' kp e) (by simp only[Ó] <;> omega)
 ·obtain⟨its,r',pl,hz⟩:=I.tuple hq;have hlen:=r'.length;obtain⟨o,ho,hc,n,hd⟩:=pl;exact call_list_seq p (.inr rfl) ho hc hd (λh' c' kp e=>fin its r' hz h' c' kp e) (by simp only[Ó] <;> omega)
theorem r60:f00 X (.type "tuple") (λxs H Q=>∃ p ys,xs=[.ref p]/\((SqL X.K H p ys/\∀ l,H l=none->Q (.ref l) (upd H l (.tup ys)))∨(SqT X.K H p ys/\Q (.ref p) H))):=by
 intro pins s σ H xs us Q I r h;obtain⟨p,ys,rfl,h⟩:=h;obtain⟨u,rfl,rx⟩:=vals1 r;cases rx;rcases h with ⟨hq,q⟩ | ⟨hq,q⟩
 ·obtain⟨its,r',pl,hz⟩:=I.list hq;have hlen:=r'.length;refine call_tuple_list pl.isList (λh' kp=>?_) (by simp only[Ó] <;> omega)
  have I1:Inv X pins σ H { s with heap:=h' }:=I.kept (t':=s.toks) kp;have I2:Inv X pins σ (upd H h'.objs.size (.tup ys)) { s with heap:=h'.push { cls:=.type "tuple",data:=.seq its.toArray } } :=
   I1.laid (t':=s.toks) (λb o e=>Ã _ e) (É _) (show h40 X.prog X.w _ _ _ (.tup ys) from⟨hz,its,r',Ì3.new _ _⟩)
  exact⟨.ref h'.objs.size,_,I2,rfl,q _ (I1.hok.fresh (É _))⟩
 ·obtain⟨its,r',pl,hz⟩:=I.tuple hq;exact call_tuple_same pl ⟨.ref p,H,I,rfl,q⟩
def tyV(K:Â)(T:String)(x:V)(H:Hp):Prop:=match x with
 |.str _=>T="str"|.int _=>T="int"
 |.ref p=>(T="list"/\∃ xs,SqL K H p xs)∨(T="tuple"/\∃ o,K.lookup p=some o/\o.cls=.type "tuple"/\o.dict=none) ∨
   (T="dict"/\((∃ kvs,H p=some (.dK kvs))∨∃ kvs,H p=some (.dT kvs)))∨(T="set"/\∃ S n,H p=some (.set S n))
 |_=>False
theorem G71{pins:List (Æ × Obj)}{σ:St}{H:Hp}{s:Å}{T:String}{x:V}{v:Ä}(I:Inv X pins σ H s)(r:RelV x v)(ty:tyV X.K T x H) :
  s.TypeIs v T/\∀ a,v=.ref a->∃ ob,s.heap.get? a=some ob/\ob.dict=none:=by
 cases x with
 |str z =>
  obtain⟨t,rfl⟩:=r;cases (show T="str" from ty);exact⟨typeIs_str s z t,λ_ e=>nomatch e⟩
 |int i =>
  obtain⟨t,rfl⟩:=r;cases (show T="int" from ty);exact⟨Ø7 s i t,λ_ e=>nomatch e⟩
 |ref p =>
  cases r;rcases ty with ⟨rfl,xs,hq⟩ | ⟨rfl,o,hk,hc,hd⟩ | ⟨rfl,hk⟩ | ⟨rfl,S,n,hk⟩
  ·obtain⟨its,_,pl,_⟩:=I.list hq;refine⟨pl.isList.typeIs,λa e=>?_⟩;cases e;obtain⟨o,n,e,c,hd,_⟩:=pl;exact⟨o,e,hd⟩
  ·refine⟨⟨o,I.kIn p o hk,hc⟩,λa e=>?_⟩;cases e;exact⟨o,I.kIn _ o hk,hd⟩
  ·have z:∃ o,s.heap.get? p=some o/\o.ExactDict:=by
    rcases hk with ⟨kvs,hk⟩ | ⟨kvs,hk⟩
    ·obtain⟨_,_,_,_,o,_,_,e,ex,_⟩:=I.hok p _ hk;exact⟨o,e,ex⟩
    ·obtain⟨_,_,_,_,o,_,_,e,ex,_⟩:=I.hok p _ hk;exact⟨o,e,ex⟩
   obtain⟨o,e,ex⟩:=z;refine⟨⟨o,e,ex.1⟩,λa e2=>?_⟩;cases e2;exact⟨o,e,ex.2.1⟩
  ·obtain⟨o,_,_,_,e,ex,_⟩:=I.hok p _ hk;refine⟨⟨o,e,ex.1⟩,λa e2=>?_⟩;cases e2;exact⟨o,e,ex.2.1⟩
 |_=>exact Å1 ty
def C52(K:Â)(T:String)(r:V->List V->Hp->VK->Prop)(to:TE):TE:=λσ H Q=>to σ H λx H1=>tyV K T x H1/\r x [] H1 Q
def tBM(K:Â)(T:String)(r:V->List V->Hp->VK->Prop)(to:TE)(t:TA):TE:=λσ H Q=>to σ H λx H1=>tyV K T x H1/\t σ H1 λxs H2=>r x xs H2 Q
variable {o e:Î}{es:List Î}{to:TE}{t:TA}{name:Str}{apos cpos:Pos}{T id:String}{r:V->List V->Hp->VK->Prop}
theorem Z51(pa:PlainAttrs T)(slot:Slot T name id)(hty:typeOf (.builtin id)=pure (.type "method_descriptor"))(hm:MtR X id r)(ho:PE X o to)
  (hbase:attributeBase o name X.env (eval o X.env)=eval o X.env:=by rfl) (hline:(apos.endLine == cpos.line)=true:=by rfl):PE X (.Call (.Attribute o name apos) [] [] cpos) (C52 X.K T r to):=by
 intro pins s σ H Q I h;refine wpAny_Call_method0_late hbase hline (thn (ho pins s σ H _ I h) λv s1 ⟨x,H1,I1,r1,ty,q1⟩=>?_);obtain⟨h1,h2⟩:=G71 I1 r1 ty;exact⟨T,id,pa,slot,hty,h1,h2,Þ1 rfl (PySem.evalArgs_none (hm pins s1 σ H1 x [] v [] Q I1 r1 .nil q1))⟩
theorem L21(pa:PlainAttrs T)(slot:Slot T name id)(hty:typeOf (.builtin id)=pure (.type "method_descriptor"))(hm:MtR X id r)(ho:PE X o to)(ha:PA X (e::es) t)
  (hbase:attributeBase o name X.env (eval o X.env)=eval o X.env:=by rfl)
  (hfew:((Ò0 cpos (û (e::es) X.env)).all (λx=>!x.1)&&(backToKw cpos (keywordEach [] X.env)).all (λx=>x.1.isSome)
   &&decide ((e::es).length + ([]:List Keyword).length + (if ([]:List Keyword).isEmpty then 0 else 1) < 30))=true:=by rfl)
  (hline:(apos.endLine == cpos.line)=true:=by rfl) (hs:û (e::es) X.env=(false,eval e X.env)::û es X.env:=by rfl) (hplain:(Ò0 cpos (û es X.env)).any (·.1)=false:=by rfl) :
  PE X (.Call (.Attribute o name apos) (e::es) [] cpos) (tBM X.K T r to t):=by
 intro pins s σ H Q I h;refine wpAny_Call_method_late hbase hfew hline rfl (thn (ho pins s σ H _ I h) λv s1 ⟨x,H1,I1,r1,ty,q1⟩=>?_);obtain⟨h1,h2⟩:=G71 I1 r1 ty;refine⟨T,id,pa,slot,hty,h1,h2,?_⟩;have hA:=ha cpos pins s1 σ H1 _ I1 q1;rw[hs] at hA ⊢;refine Þ1 (by show(false || (Ò0 cpos (û es X.env)).any (·.1))=false;rw[hplain] <;> rfl) (Þ8 ?_)
 exact thn hA λus s2 ⟨vs,H2,I2,r2,q2⟩=>hm pins s2 σ H2 x vs v us Q I2 r1 r2 q2
end
def MtM(X:Cx)(id:String)(r:V->List V->Hp->VK->Prop):Prop :=
 ∀ (pins:List (Æ × Obj)) (s:Å) (σ:St) (H:Hp) (x:V) (xs:List V) (v:Ä) (us:List Ä) (Q:VK),Inv X pins σ H s->RelV x v->Vals xs us->r x xs H Q ->
  Ñ (Ø X.prog X.w) X.A (call (.builtin id) (v::us)) (EP X pins σ Q) X.xe s
theorem Vals.one:∀ {x:V}{us:List Ä},Vals [x] us->∃ u,us=[u]/\RelV x u
 |_,_,.cons r .nil=>⟨_,rfl,r⟩
theorem Vals.eraseIdx:∀ {xs:List V}{us:List Ä} (i:Nat),Vals xs us->Vals (xs.eraseIdx i) (us.eraseIdx i)
 |_,_,_,.nil=>.nil|_,_,0,.cons _ t=>t|_,_,i + 1,.cons r t=>.cons r (Vals.eraseIdx i t)
theorem Vals.reverse{xs:List V}{us:List Ä}(h:Vals xs us):Vals xs.reverse us.reverse:=by
 induction h with
 |nil=>exact .nil|cons r t ih=>rw[Ð3,Ð3];exact Vals.append ih (.cons r .nil)
theorem Vals.rep{xs:List V}{us:List Ä}(h:Vals xs us):∀ k:Nat,Vals (ë k xs).flatten (ë k us).flatten
 |0=>.nil
 |k + 1=>by
  rw[Å7,Å7,É8,É8];exact Vals.append h (Vals.rep h k)
theorem L60{α:Type}:∀ (l:List α) (i:Nat),(l.eraseIdx i).length<=l.length
 |[],_=>É _|_::_,0=>le_succ _|_::r,i + 1=>É7 (L60 r i)
theorem foldl_rep(its:List Ä):∀ (k:Nat) (acc:List Ä),
  foldl (λx1 x2=>x1++x2) acc.toArray (ë k its.toArray)=(acc++(ë k its).flatten).toArray
 |0,acc=>by simp
 |k + 1,acc=>by
  have e:acc.toArray++its.toArray=(acc++its).toArray:=by simp
  have e2:(acc++its)++(ë k its).flatten=acc++(ë (k + 1) its).flatten:=by
   rw[Å7,É8,Õ9]
  rw[← e2,← foldl_rep its k (acc++its),← e,Å7,Ê7]
section
variable {X:Cx}{pins:List (Æ × Obj)}{σ:St}{H:Hp}{s:Å}{l b:Æ}{xs ys zs:List V}
theorem Inv.k42{its its':List Ä}{n:Nat}{f:Array Ä->Array Ä}{t':Nat}(I:Inv X pins σ H s)(hH:H l=some (.lst xs))
  (e:s.heap.get? l=some { cls:=.type "list",data:=.seq its.toArray n }) (hf:f its.toArray=its'.toArray) (hv:Vals ys its') (hz:ys.length<=sizeLine) :
  Inv X pins σ (upd H l (.lst ys)) { s with heap:=s.heap.update l (Á2 f),toks:=t' }:=by
 have q:=PySem.IsL.update e f;rw[hf] at q;refine I.write (x:=l) (e:=l) (by rw[hH];exact trivial) (.inl rfl) (λb' u hb hu=>(Þ2 s.heap (Á2 f) (À1 hb)).trans hu) ⟨_,q⟩ ?_
 exact⟨hz,its',_,hv,q⟩
theorem Inv.x82{its:List Ä}{t':Nat}(I:Inv X pins σ H s)(hv:Vals ys its)(hz:ys.length<=sizeLine) :
  Inv X pins σ (upd H s.heap.objs.size (.lst ys)) { s with heap:=s.heap.push { cls:=.type "list",data:=.seq its.toArray },toks:=t' } :=
 I.laid (λ_ _ q=>Ã _ q) (É _) ⟨hz,its,0,hv,Ì _ rfl⟩
theorem Inv.fresh(I:Inv X pins σ H s):H s.heap.objs.size=none:=I.hok.fresh (É _)
theorem Inv.o52(I:Inv X pins σ H s)(hH:H l=some (.lst xs)):xs.length<=sizeLine/\∃ (its:List Ä) (n:Nat),Vals xs its/\xs.length=its.length/\s.heap.get? l=some { cls:=.type "list",data:=.seq its.toArray n }:=by
 obtain⟨z,its,n,r,e⟩:=I.hok l _ hH;exact⟨z,its,n,r,r.length,e⟩
theorem x51{n:Nat}(h:n<=sizeLine):Ë5 n=false:=by
 unfold Ë5;exact decide_eq_false ∅
end
section
variable {X:Cx}
def i31:V->List V->Hp->VK->Prop:=λx vs H Q=>∃ l xs y,x=.ref l/\vs=[y]/\H l=some (.lst xs)/\xs.length < sizeLine/\Q .non (upd H l (.lst (xs++[y])))
theorem L70:MtM X "list.append" i31:=by
 intro pins s σ H x vs v us Q I rx rv h;obtain⟨l,xs,y,rfl,rfl,hH,hz,q⟩:=h;cases rx;obtain⟨u,rfl,ru⟩:=rv.one;obtain⟨z,its,n,r,hl,e⟩:=I.o52 hH;refine Ç1 F.slot_list_append ⟨_,e,rfl⟩ F.entry_list_append (F.args_list_append_2 _ _) (PySem.list_append l its.toArray n u (by rw[Ó];omega)) ⟨e,?_⟩
 refine⟨.non,_,I.k42 (its':=its++[u]) hH e (by simp) (r.append (.cons ru .nil)) ?_,rfl,q⟩
 rw[À5,Þ5];omega
def Z61:V->List V->Hp->VK->Prop:=λx vs H Q=>∃ l xs i k y,x=.ref l/\vs=[.int i]/\H l=some (.lst xs)/\-(2 ^ 63)<=i/\i < 2 ^ 63/\seqIndex? i xs.length=some k/\xs[k]?=some y/\Q y (upd H l (.lst (xs.eraseIdx k)))
theorem k52:MtM X "list.pop" Z61:=by
 intro pins s σ H x vs v us Q I rx rv h;obtain⟨l,xs,i,k,y,rfl,rfl,hH,h1,h2,hk,hy,q⟩:=h;cases rx;obtain⟨u,rfl,ru⟩:=rv.one;obtain⟨t,rfl⟩:=ru;obtain⟨z,its,n,r,hl,e⟩:=I.o52 hH;obtain⟨w,hw,rw'⟩:=r.get hy;refine Ç1 F.slot_list_pop ⟨_,e,rfl⟩ F.entry_list_pop (F.args_list_pop_2 _ _)
  (MeetsSeq.list_pop_at l its.toArray n i t k w (fitsIndex_both h1 h2) (by rw[Ó,← hl];exact hk) (by rw[← ý];exact hw) (by rw[Ó];omega)) ⟨e,?_⟩
 refine⟨y,_,I.k42 (its':=its.eraseIdx k) hH e ?_ (r.eraseIdx k) ?_,rw',q⟩
 ·show its.toArray.eraseIdxIfInBounds k=(its.eraseIdx k).toArray;rw[List.eraseIdxIfInBounds_toArray]
 ·have:=L60 xs k;omega
theorem len_rep{α:Type}(xs:List α)(k:Nat):(ë k xs).flatten.length=k * xs.length:=by
 induction k with
 |zero=>simp|succ k ih=>rw[Å7,É8,À5,ih,Nat.succ_mul,Nat.add_comm]
end
end L2
namespace Att
open PySem PySem.W PySem.Calls PyProof.Rows
theorem z10{P:Params}{h:ï}:∀ (ns:List Int) (vs:List Ä),WellAll P h vs (ns.map WData.int)->É4 vs ns:=by
 intro ns
 induction ns with
 |nil =>
  intro vs w;rw[map_nil] at w;cases w;exact .nil
 |cons n ns ih =>
  intro vs w;rw[Ã5] at w;cases w with
  |cons a b =>
   cases a;exact .cons _ _ (ih _ b)
theorem i41{l:OpenLaw}{n:Nat}(hn:l.most=some n){P:Params}{h:ï}{args:List WData}{vals:List Ä}
  (hpre:l.row.toRowW.claim.pre args=true) (hwl:WellAll P h vals args) :
  ∃ a vs ns,vals=[þ a]/\args=[WData.list (ns.map WData.int)]/\h.get? a=some { cls:=.type "list",data:=.seq vs.toArray }/\É4 vs ns/\ns.length<=n:=by
 have hsh:WShape.hasAll [] args [.list .int]=true:=(pre_splitW hpre).1;have hc:l.pre.holds [] { args:=args }=true:=(pre_splitW hpre).2;obtain⟨d,r,rfl,h1,h2⟩:=hasAllW_cons hsh;obtain rfl:=hasAllW_nil h2;obtain⟨xs,rfl,h3⟩:=hasW_list h1;obtain⟨ns,rfl⟩:=items_int h3;have hlen:ns.length<=n:=by
  unfold OpenLaw.pre at hc;have h4:(WTm.not (.lt (.lit (.int (n:Int))) (.len (.arg 0)))).holds [] { args:=[.list (ns.map .int)] }=true:=by
   have h4:=(holds_andW hc).1;rw[hn] at h4;exact h4
  have h5:=condW_of h4 (w_not (w_lt w_lit (w_len_list (w_arg rfl))));rw[È] at h5;refine Nat.le_of_not_lt λq=>?_;have q':(n:Int) < ((ns.length:Nat):Int):=by omega
  first
   |(rw[decide_eq_true q'] at h5;exact absurd h5 (-0))
   |(simp at h5;omega)
 cases hwl with
 |cons w1 w2 =>
  cases w2;cases w1 with
  |list ho hall=>exact⟨_,_,ns,rfl,rfl,ho,z10 ns _ hall,hlen⟩
theorem i51(l:OpenLaw)(args:List WData):l.row.toRowW.claim.post args (.bool true) args=true :=
 postW_of (r:=l.row.toRowW) (X:=(true == true))
  (show WShape.has [] (.bool true) .bool=true by first | rfl | decide | simp[WShape.has,WShape.arms,WShape.armsAll])
  (show(WTm.eq .res (.lit (.bool true))).value [] { args:=args,res:=some (.bool true),after:=args }=some (.bool (true == true)) from w_eq_bool (w_res rfl) w_lit) rfl
theorem R00{l:OpenLaw}{n:Nat}{q:â}{loose:List Str}{XP:(Str->Option Ä)->ï->Prop}{YP:õ->ï->Prop}{d:DefRec}
  (hn:l.most=some n) (hdf:d.params.defaults=[])
  (call:∀ (w:õ) (s₀ s₁:Å) (mg mb:Str->Option Ä) (fa:Æ) (o:Obj) (pm cd doc:Ä) (a:Æ) (vs:List Ä) (ns:List Int),
   Ground q loose [] XP w s₀ mg mb s₁.heap->YP w s₁.heap ->
   s₁.heap.get? fa=some o->o.data=.func (docDef d.name d.params d.body d.scope pm cd doc)->s₁.heap.CodeRec cd d.name->mg d.name=some (.ref fa) ->
   s₁.heap.get? a=some { cls:=.type "list",data:=.seq vs.toArray }->É4 vs ns->ns.length<=n->s₁.gens=#[] ->
   Ï6 (Ø l.prog w) Ú7 (.call (.ref fa) ⟨[.ref a],[]⟩) (λr s'=>r=.ok (.ret (.bool true))/\OldK s₁.heap s'.heap/\s'.os=s₁.os/\Ò3 s'.gens) s₁) :
  WalkO q loose XP YP l.row.toRowW d [] (λf vs=>PySem.call f vs):=by
 intro w s₀ s₁ mg mb G Y fa o pm cd doc dV kV ho hd hcd hD hmg hg args vals as hpre hlay hrd hwl hlo;obtain rfl:dV=.none:=Dflts.none hD hdf;obtain rfl:kV=.none:=Dflts.noKw hD;obtain⟨a,vs,ns,rfl,rfl,hobj,hints,hlen⟩:=i41 hn hpre hwl;refine enter_call (Ñ9 (call w s₀ s₁ mg mb fa o pm cd doc a vs ns G Y ho (fd_plain hd) hcd hmg hobj hints hlen hg) λr s' hq=>?_);obtain⟨rfl,h2,h3,h4⟩:=hq;exact⟨.inl ⟨.bool true,.bool true,[],rfl,λ_=>rfl,.bool true,i51 l _,λ_=>⟨Ô0.nil,λ_ hm=>(nomatch hm)⟩⟩,h2,h3,h4⟩
end Att
namespace L2
open PySem PySem.Spec PyProof.Rows
theorem L80:∀ {vs:List Ä}{ns:List Int},É4 vs ns->Vals (ns.map V.int) vs
 |_,_,.nil=>.nil|_,_,.cons n t h=>.cons ⟨t,rfl⟩ (L80 h)
def F20(s:Ã8):Arguments:=match s with
 |.FunctionDef _ a _ _ _ _ _ _ _ _=>a|_=>{ posonlyargs:=[],args:=[],vararg:=none,kwonlyargs:=[],kw_defaults:=[],kwarg:=none,defaults:=[] }
def m20(s:Ã8):List Stmt:=match s with
 |.FunctionDef _ _ b _ _ _ _ _ _ _=>b|_=>[]
def c70(s:Ã8):Scope:=match s with
 |.FunctionDef _ _ _ _ _ _ sc _ _ _=>sc|_=>{ kind:=.function,names:=[],isGenerator:=false,isCoroutine:=false }
abbrev CX0:CXT:=λ_ _ _ _ _ _=>False
structure Fun(K:PySem.W.Frag)(x qual:Str)(st:Stmt)(f:Addr)(fd:FuncData):Prop where
 ex:∃ (oc:Value) (od:Option Addr) (kV doc pm:Value) (an:Option Addr) (cdv ct:Value) (osl:Array (Option Value)),
  fd=fnOf x qual (F20 st) (m20 st) (c70 st) .none kV doc pm an cdv ct/\K.lookup f=some ⟨oc,od,.func fd,osl⟩/\PySem.W.codeIn K cdv qual=true
 kp:PySem.W.keepIn K (.ref f)=true
section
variable {P:â}{w:õ}{K:Â}{mg:Str->Option Ä}{base:ï}
theorem Fun.binds{x qual:Str}{st:Ã8}{f:Æ}{fd:É3}{ps:List Str}(F:Fun K x qual st f fd)
  (h:∀ (kV doc pm:Ä) (an:Option Æ) (cdv ct:Ä) (us:List Ä),us.length=ps.length->bindArgs (fnOf x qual (F20 st) (m20 st) (c70 st) .none kV doc pm an cdv ct) ⟨us,[]⟩=pure (ps.zip us)):Binds K fd ps []:=by
 obtain⟨oc,od,kV,doc,pm,an,cdv,ct,osl,rfl,lk,hcd⟩:=F.ex;exact .all (h kV doc pm an cdv ct)
end
theorem L31{A:ü}{k:Nat}(hr:K60 k A):A.units + 1 < cLine:=Ì9 (Nat.add_le_add_left (by decide:1<=64) _) hr.units
def a10(H H':Hp):Prop:=∀ b o,H b=some o->H' b=some o
theorem a10.refl(H:Hp):a10 H H:=λ_ _ h=>h
theorem a10.trans{H H1 H2:Hp}(a:a10 H H1)(b:a10 H1 H2):a10 H H2:=λc o h=>b c o (a c o h)
end L2
set_option maxHeartbeats 4000000
namespace L2
open PySem
abbrev NoX:Ä->Å->Prop:=λ_ _=>False
theorem R10(env:Env):∀ (names:List (Str × É2)) (acc:List (Str × Æ)),(∀ y∈names,y.2=.free->∃ c,env.cells.lookup y.1=some c)->(∀ x c,acc.lookup x=some c->env.cells.lookup x=some c) ->
  ∃ cl:List (Str × Æ),(forIn names acc λ(x:Str × É2) (r:List (Str × Æ))=>(if (x.2 == .free)=true then do let c ← cellOf env x.1;pure (Ý ((x.1,c)::r)) else pure (Ý r):Sem (ForInStep (List (Str × Æ)))))=pure cl /\
   (∀ x c,cl.lookup x=some c->env.cells.lookup x=some c)/\(∀ x c,acc.lookup x=some c->∃ c',cl.lookup x=some c')/\(∀ y∈names,y.2=.free->∃ c,cl.lookup y.1=some c)
 |[],acc,_,ha=>⟨acc,by simp,ha,λx c e=>⟨c,e⟩,λy hy=>absurd hy (by simp)⟩
 |(n,k)::r,acc,hf,ha=>by
  by_cases hk:k=.free
  ·subst hk;obtain⟨c,hc⟩:=hf (n,.free) Ë rfl;have hcell:cellOf env n=pure c:=by unfold cellOf;rw[hc]
   obtain⟨cl,e,h1,h2,h3⟩:=R10 env r ((n,c)::acc) (λy hy=>hf y (Í _ hy)) (λx c' e=>by
    rw[ÿ] at e;by_cases hx:(x == n)=true
    ·rw[hx] at e;have:x=n:=by simpa using hx
     subst this;cases e;exact hc
    ·rw[show(x == n)=false by simpa using hx] at e
     exact ha x c' e)
   refine⟨cl,?_,h1,λx c' e'=>?_,λy hy hyk=>?_⟩
   ·rw[Ê6];simp only[beq_self_eq_true,if_true,hcell,pure_bind];exact e
   ·by_cases hx:(x == n)=true
    ·exact h2 x c (by rw[ÿ,hx])
    ·exact h2 x c' (by rw[ÿ,show(x == n)=false by simpa using hx];exact e')
   ·rcases å.mp hy with rfl | hy
    ·exact h2 n c (by simp[ÿ])
    ·exact h3 y hy hyk
  ·obtain⟨cl,e,h1,h2,h3⟩:=R10 env r acc (λy hy=>hf y (Í _ hy)) ha;refine⟨cl,?_,h1,h2,λy hy hyk=>?_⟩
   ·rw[Ê6];have hb:((k == ñ)=true)=False:=by simpa using hk
    simp only[hb,if_false,pure_bind];exact e
   ·rcases å.mp hy with rfl | hy
    ·exact absurd hyk hk
    ·exact h3 y hy hyk
theorem R20(hf:∀ y∈scope.names,y.2=.free->∃ c,env.cells.lookup y.1=some c) :
  ∃ cl:List (Str × Æ),closureFor scope env=pure cl/\(∀ x c,cl.lookup x=some c->env.cells.lookup x=some c)/\(∀ y∈scope.names,y.2=.free->∃ c,cl.lookup y.1=some c):=by
 obtain⟨cl,e,h1,_,h3⟩:=R10 env scope.names [] hf (λx c e=>by simp at e)
 refine⟨cl,?_,h1,h3⟩;simp only[closureFor];exact(congrArg (λt=>t >>= λr=>(pure r:Sem _)) e).trans (by simp)
section
variable {P:â}{w:õ}{A:ü}{R:Result->Å->Prop}{s:Å}
theorem i61{el tg src:Î}{tests:List Î}{sc:À3}{ps:Pos}{itv av:Ä}{en:Env}(J:Nat->Å->Prop)
  (turn:∀ n s,J n s->Ñ (Ø P w) A (Ø9 itv) (λr s1=>match r with
   |none=>R (.ok .next) s1
   |some v=>Ñ (Ø P w) A (Ý7 tg itv v) (λ_ s2=>Ñ (Ø P w) A (Õ2 tg en v) (λ_ s3 =>
     Ñ (Ø P w) A (forIn tests true λc r=>if r=true then do let ok ← isTrue c en (eval c en);pure (Ý ok) else pure (Ý r)) (λok s4 =>
      if ok=true then Ñ (Ø P w) A (eval el en) (λx s5 =>
       Ñ (Ø P w) A (call (.builtin "list.append") [av,x]) (λ_ s6=>∃ m,m < n/\J m s6) NoX s5) NoX s4
      else ∃ m,m < n/\J m s4) NoX s3) NoX s2) NoX s1) NoX s)
  (n:Nat) (h:J n s) :
  Ï6 (Ø P w) A (.compLoop (.ListComp el [⟨tg,src,tests,0⟩] sc ps) 0 itv av en) R s:=by
 refine codeAny_loop rfl J (λn s hI=>?_) n h;show Ñ _ A ((compTurn (.ListComp el [⟨tg,src,tests,0⟩] sc ps) 0 itv av en).onRaise (λx=>do noteFrame x en;theTreesLotGoes x)) _ _ s;refine wpAny_noted ?_;rw[compTurn_list];refine À (Ö8 (À (Ä6 (turn n s hI) (λr s1 h1=>?_) λ_ _ x=>x.elim)));cases r with
 |none=>exact Ç h1
 |some v =>
  refine À (Ä6 h1 (λ_ s2 h2=>?_) λ_ _ x=>x.elim);refine À (Ä6 h2 (λ_ s3 h3=>À (Ä6 h3 (λok s4 h4=>?_) λ_ _ x=>x.elim)) λ_ _ x=>x.elim);cases ok with
  |false=>exact Ç ⟨rfl,h4⟩|true=>exact À (À (Ä6 h4 (λx s5 h5=>À (Ä6 h5 (λ_ s6 h6=>Ç (Ç ⟨rfl,h6⟩)) λ_ _ x=>x.elim)) λ_ _ x=>x.elim))
end
open PySem PySem.Spec PyProof.Rows
abbrev c30(X:Cx)(N':List Str)(sc:À3)(cl:List (Str × Æ))(C:Æ)(s:Å)(H:Hp)(fp:List Æ):Cx :=
 { X with N:=N',s₀:=s,H₀:=H,env:=compEnvC sc cl C X.env,outer:=X.stack,stack:=X.stack,ex:=fp,fn:=λ_=>false,pn:=[],xe:=NoX }
def d30(own:List Str)(capt:List (Str × Nat)):List Str:=own++capt.map (·.1)
def p70(own:List Str)(capt:List (Str × Nat))(σ:St):St:=own.map (λ_=>none)++capt.map λp=>(σ[p.2]?).getD none
structure z20(X:Cx)(sc:Scope)(own:List Str)(capt:List (Str × Nat)):Prop where
 kind:sc.kind=.function
 nocell:∀ y∈sc.names,y.2≠.cell
 locs:∀ y∈sc.names,y.2=.local->sc.names.lookup y.1=some .local
 frees:∀ y∈sc.names,y.2=.free->X.env.kindOf y.1=some .cell∨X.env.kindOf y.1=some .free
 captd:∀ p∈capt,X.N[p.2]?=some p.1/\sc.names.lookup p.1=some .free
theorem F30{env:Env}:∀ {names:List (Str × É2)}{x:Str}{k:É2},
  (names.map λ(n,k)=>if (k == ñ&&env.scope.kind == .function&&env.kindOf n == some .cell) then(n,Ä4) else(n,k)).lookup x=some k->(k=.cell∨k=.free)->(∀ y∈names,y.2≠.cell)->(x,ñ)∈names
 |[],_,_,h,_,_=>by simp at h
 |(n,k0)::r,x,k,h,hk,hn=>by
  have h:Ê8 x ((if (k0 == ñ&&env.scope.kind == .function&&env.kindOf n == some .cell)=true then(n,Ä4) else(n,k0))::_)=some k:=h;have hn0:k0≠.cell:=hn (n,k0) Ë;cases hx:x == n with
  |true =>
   have e:x=n:=by simpa using hx
   subst e;by_cases hc:(k0 == ñ&&env.scope.kind == .function&&env.kindOf x == some .cell)=true
   ·have:k0=.free:=by
     cases k0 <;> simp_all
    subst this;exact Ë
   ·rw[if_neg hc] at h;simp only[ÿ,hx] at h;cases h;rcases hk with hk | hk
    ·exact absurd hk hn0
    ·subst hk;exact Ë
  |false =>
   have h':(r.map λ(n,k)=>if (k == ñ&&env.scope.kind == .function&&env.kindOf n == some .cell) then(n,Ä4) else(n,k)).lookup x=some k:=by
    by_cases hc:(k0 == ñ&&env.scope.kind == .function&&env.kindOf n == some .cell)=true
    ·rw[if_pos hc] at h;simp only[ÿ,hx] at h;exact h
    ·rw[if_neg hc] at h;simp only[ÿ,hx] at h;exact h
   exact Í _ (F30 h' hk λy hy=>hn y (Í _ hy))
theorem n50{env:Env}:∀ {names:List (Str × É2)}{x:Str},names.lookup x=some .free ->
  (names.map λ(n,k)=>if (k == ñ&&env.scope.kind == .function&&env.kindOf n == some .cell) then(n,Ä4) else(n,k)).lookup x=some .cell ∨
  (names.map λ(n,k)=>if (k == ñ&&env.scope.kind == .function&&env.kindOf n == some .cell) then(n,Ä4) else(n,k)).lookup x=some .free
 |[],_,h=>by simp at h
 |(n,k)::r,x,h=>by
  have ih:=@n50 env r x;show Ê8 x ((if (k == ñ&&env.scope.kind == .function&&env.kindOf n == some .cell)=true then(n,Ä4) else(n,k))::_)=_∨Ê8 x ((if (k == ñ&&env.scope.kind == .function&&env.kindOf n == some .cell)=true then(n,Ä4) else(n,k))::_)=_;cases hx:x == n with
  |true =>
   simp only[ÿ,hx] at h;cases h;by_cases hc:(ñ == ñ&&env.scope.kind == .function&&env.kindOf n == some .cell)=true
   ·rw[if_pos hc];left;simp only[ÿ,hx]
   ·rw[if_neg hc];right;simp only[ÿ,hx]
  |false =>
   simp only[ÿ,hx] at h;by_cases hc:(k == ñ&&env.scope.kind == .function&&env.kindOf n == some .cell)=true
   ·rw[if_pos hc];simp only[ÿ,hx];exact ih h
   ·rw[if_neg hc];simp only[ÿ,hx];exact ih h
theorem HOk.x61{P:â}{w:õ}{H:Hp}{h:ï}{D:Æ}{ys:List V}{its:List Ä}{n:Nat}(x:HOk P w H h)(hn:H D=none)(hv:Vals ys its)(hz:ys.length<=sizeLine)
  (ho:h.get? D=some { cls:=.type "list",data:=.seq its.toArray n }):HOk P w (upd H D (.lst ys)) h:=λb u e=>by
 by_cases hb:b=D
 ·subst hb;rw[b10] at e;cases e;exact⟨hz,its,n,hv,ho⟩
 ·rw[a40 hb] at e;exact(x b u e).w31 (λc v _ q=>q) (λc q=>by rw[a40 (b00 q hn)];exact q) λc xs q=>by rw[a40 (b00 q hn)];exact q
def PTs(X:Cx)(tests:List Î)(t:TT):Prop :=
 ∀ (pins:List (Æ × Obj)) (s:Å) (σ:St) (H:Hp) (Q:Bool->Hp->Prop),Inv X pins σ H s->t σ H Q ->
  Ñ (Ø X.prog X.w) X.A (forIn tests true λc r=>if r=true then do let ok ← isTrue c X.env (eval c X.env);pure (Ý ok) else pure (Ý r)) (TP X pins σ Q) X.xe s
def c51:TT:=λ_ H Q=>Q true H
theorem i71:PTs X [] c51:=λ_ _ _ H _ I h=>wpAny_tests_nil ⟨H,I,h⟩
theorem L41(hc:PT X c t):PTs X [c] t:=λpins s σ H Q I h=>wpAny_tests_one (hc pins s σ H Q I h)
section
variable {X:Cx}{pins:List (Æ × Obj)}{σ:St}{H2:Hp}{s2:Å}{sc:À3}{own:List Str}{capt:List (Str × Nat)}{cl:List (Str × Æ)}{fp:List Æ}{C:Æ}
theorem L90(I:Inv X pins σ H2 s2)(S:z20 X sc own capt)(hcl:∀ x c,cl.lookup x=some c->X.env.cells.lookup x=some c)(hcf:∀ y∈sc.names,y.2=.free->∃ c,cl.lookup y.1=some c)
  (hx:∀ x c,X.env.cells.lookup x=some c->c ∉ fp) {h':ï} (un:∀ c o,s2.heap.get? c=some o->H2 c=none->c ∉ fp->∃ sl,h'.get? c=some { o with slots:=sl }) (m:Str->Option Ä) :
  ∀ (i:Nat) (x:Str) (v:V),(d30 own capt)[i]?=some x->(p70 own capt σ)[i]?=some (some v)->∃ u,RelV v u/\Look (compEnvC sc cl C X.env) h' m x u:=by
 intro i x v e1 e2;unfold d30 at e1;unfold p70 at e2;by_cases hi:i < own.length
 ·rw[Í4 (by simpa using hi),Þ] at e2
  cases q:own[i]? with
  |none=>rw[q] at e2;cases e2
  |some y=>rw[q] at e2;cases e2
 ·rw[Ä0 (by simpa using hi),È,Þ] at e2
  rw[Ä0 (by simpa using hi),Þ] at e1
  cases q:capt[i - own.length]? with
  |none=>rw[q] at e1;cases e1
  |some p =>
   rw[q] at e1 e2;obtain rfl:p.1=x:=Á4 e1;have e3:(σ[p.2]?).getD none=some v:=Á4 e2;have e4:σ[p.2]?=some (some v):=by
    cases z:σ[p.2]? with
    |none=>rw[z] at e3;cases e3
    |some w=>rw[z] at e3;exact congrArg some e3
   obtain⟨hN,hf⟩:=S.captd p (ê q);have hmem:(p.1,ñ)∈sc.names:=Å6 hf;have hk:=S.frees _ hmem rfl;obtain⟨m0,_,hl⟩:=I.loc;have vis:Vis X.env.scope p.1:=.inr hk;obtain⟨u,r,lk⟩:=hl p.2 p.1 v hN e4 vis;refine⟨u,r,.inr ⟨?_,?_⟩⟩
   ·exact n50 hf
   ·rcases lk with ⟨hl0,_⟩ | ⟨_,c,hc,o,ho,hd⟩
    ·rcases hk with hk | hk <;> (rw[hk] at hl0;cases hl0)
    ·obtain⟨c',hc'⟩:=hcf _ hmem rfl;have:=hcl _ _ hc';rw[hc] at this;cases this;obtain⟨sl,q'⟩:=un c o ho (I.freeC _ _ hc) (hx _ _ hc);exact⟨c,hc',_,q',hd⟩
end
def L51(X:Cx)(pins:List (Æ × Obj))(σ:St)(R:V->Hp->Prop)(acc:Ä)(C:Æ)(s':Å):Prop :=
 ∃ D H' m',acc=.ref D/\Inv X pins σ H' s'/\V60 X pins H' C/\s'.heap.Ns C m'/\R (.ref D) H'
def x71(J:It)(σ0:St)(H1:Hp)(g:TG)(tt:TT)(te:TE)(Q:VK):Prop:=∃ W:Nat->Nat->List V->Hp->Prop,(∃ m,W 0 m [] H1)/\∀ i m ys H,W i m ys H ->
 (J.stop i H/\∀ p,H p=none->Q (.ref p) (upd H p (.lst ys))) ∨
 (J.go i H/\ys.length < sizeLine/\∃ N:List V->Hp->Prop,(∀ zs H',N zs H'->∃ m',m' < m/\W (i + 1) m' zs H')/\∀ x H',J.yld i H x H'->g x σ0 H' λσ2 H2=>tt σ2 H2 λb H3 =>
  if b=true then te σ2 H3 (λy H4=>N (ys++[y]) H4) else N ys H3)
def L61(own:List Str)(capt:List (Str × Nat))(wi:TI)(g:TG)(tt:TT)(te:TE):TE:=λσ H Q=>wi σ H λJ H1=>x71 J (p70 own capt σ) H1 g tt te Q
section
variable {X:Cx}{pins:List (Æ × Obj)}{σ:St}{H2:Hp}{s2:Å}{sc:À3}{own:List Str}{capt:List (Str × Nat)}{cl:List (Str × Æ)}{el tg src:Î}{tests:List Î}{ps:Pos}{g:TG}{tt:TT}{te:TE}
theorem C90(hc:X.calm=true)(S:z20 X sc own capt)(hcl:∀ x c,cl.lookup x=some c->X.env.cells.lookup x=some c)(hcf:∀ y∈sc.names,y.2=.free->∃ c,cl.lookup y.1=some c)
  (hg:∀ C s H fp,PG (c30 X (d30 own capt) sc cl C s H fp) tg g) (ht:∀ C s H fp,PTs (c30 X (d30 own capt) sc cl C s H fp) tests tt) (he:∀ C fp,(∀ b∈fp,V60 X pins H2 b)->PE (c30 X (d30 own capt) sc cl C s2 H2 fp) el te)
  {it:Æ}{fp:List Æ}{tn:Nat->ï->Prop}{J:It} (I2:Inv X pins σ H2 s2) (T:Turn X.prog X.w X.K tg J fp it tn) (st2:tn 0 s2.heap) (f2:∀ b∈fp,V60 X pins H2 b)
  {R:VK} (h:x71 J (p70 own capt σ) H2 g tt te R) {RR:Ä->Æ->Result->Å->Prop} (hRR:∀ acc C s',L51 X pins σ R acc C s'->RR acc C (.ok .next) s') {E:Ä->Å->Prop} :
  Ñ (Ø X.prog X.w) X.A (newList []) (λacc s3=>Ñ (Ø X.prog X.w) X.A (newFunctionEnv sc X.env.globals cl [] X.env.qual none .none (some X.env)) (λce s4 =>
   Ï6 (Ø X.prog X.w) X.A (.compStart (.ListComp el [⟨tg,src,tests,0⟩] sc ps) 0 (.ref it) acc { ce with scope:=relabel sc X.env }) (RR acc ce.locals) s4) E s3) E s2:=by
 obtain⟨W,⟨m0,w0⟩,turn⟩:=h;refine î (wpAny_newFunctionEnv S.nocell (by intro y hy;simp at hy) (λh1 hns1 hsb1=>?_) S.kind)
 dsimp only at hns1 hsb1 ⊢;generalize hH3:s2.heap.push { cls:=.type "list",dict:=none,data:=.seq ([]:List Ä).toArray }=h3 at hns1 hsb1 ⊢;have hC:h3.objs.size=s2.heap.objs.size + 1:=by rw[← hH3,Æ7]
 have below:∀ b,b < s2.heap.objs.size->b≠h3.objs.size/\b≠s2.heap.objs.size:=λb hb=>⟨by omega,by omega⟩
 have hDC:s2.heap.objs.size≠h3.objs.size:=by omega
 have old:∀ b o,s2.heap.get? b=some o->h1.get? b=some o:=λb o e=>hsb1.extBut b o (below b (Ü e)).1 (Ã _ (hH3 ▸ Ã _ e));have hacc:h1.get? s2.heap.objs.size=some { cls:=.type "list",data:=.seq ([]:List Ä).toArray 0 }:=hsb1.extBut _ _ hDC (Ã _ (hH3 ▸ Ì _ rfl));have fpLt:∀ b∈fp,b < s2.heap.objs.size:=λb hb=>by
  obtain⟨o,e,_⟩:=T.obj _ _ st2 b hb;exact Ü e
 have celLt:∀ x c,X.env.cells.lookup x=some c->c < s2.heap.objs.size:=λx c e=>by
  obtain⟨v,o,q,_⟩:=I2.cell x c e;exact Ü q
 have frLt:∀ b∈frs X.stack,b < s2.heap.objs.size:=λb hb=>by
  obtain⟨_,o,q,_⟩:=I2.stack.mem hb;exact Ü q
 have celFp:∀ x c,X.env.cells.lookup x=some c->c ∉ fp:=λx c e hb=>(f2 c hb).2.2.2.2.1 x c e rfl;have fpFr:∀ b∈fp,b ∉ frs X.stack:=λb hb hf=>by
  rcases å.mp (I2.f91 b hf) with z | z
  ·exact(f2 b hb).2.1 z
  ·exact(f2 b hb).2.2.1 z
 have okX:(c30 X (d30 own capt) sc cl h3.objs.size s2 H2 fp).Ok:=by
  refine⟨I2.ok.mod,S.kind,I2.ok.glob,I2.ok.blt,(by show s2.heap.objs.size<=h3.objs.size;omega),λx y c e1 e2=>I2.ok.inj x y c (hcl x c e1) (hcl y c e2),λx hx=>?_,λx c hx=>(by cases hx),I2.ok.hd,I2.ok.frames,.inl rfl,
   λb hb=>⟨(below b (fpLt b hb)).1,λx c e z=>celFp x c (hcl x c e) (z ▸ hb)⟩,I2.bs,Ô I2.ok.bsz I2.sz,λb o e hb=>?_,fpFr,I2.stack,I2.Q40⟩
  ·have hx':(x,ñ)∈sc.names:=by
    rcases hx with hx | hx
    ·exact F30 hx (.inl rfl) S.nocell
    ·exact F30 hx (.inr rfl) S.nocell
   exact hcf _ hx' rfl
  ·rcases (f2 b hb).2.2.2.1 with z | z
   ·exact I2.ok.noex b o e z
   ·have l1:b < X.base.objs.size:=Ü e;have l2:X.base.objs.size<=X.s₀.heap.objs.size:=I2.ok.bsz;have l3:X.s₀.heap.objs.size<=b:=z;exact absurd l1 (Nat.not_lt.mpr (Ô l2 l3))
 have reset:∀ {pl:List (Æ × Obj)}{σ':St}{H':Hp}{s':Å},Inv (c30 X (d30 own capt) sc cl h3.objs.size s2 H2 fp) pl σ' H' s'->Inv (c30 X (d30 own capt) sc cl h3.objs.size s2 H2 fp) pl (p70 own capt σ) H' s':=λ{pl σ' H' s'} I'=>by
  obtain⟨m,hn,_⟩:=I'.loc;refine⟨I'.ok,I'.os,I'.bare,I'.base,⟨m,hn,λi x v e1 e2 _=>L90 I2 S hcl hcf celFp (λc o q n hx=>I'.base.any q n hx) m i x v e1 e2⟩,I'.cell,I'.free,I'.freeC,I'.pin,I'.hok,?_⟩;show(p70 own capt σ).length=(d30 own capt).length;simp[p70,d30]
 have start:Inv (c30 X (d30 own capt) sc cl h3.objs.size s2 H2 fp) [(s2.heap.objs.size,{ cls:=.type "list",data:=.seq ([]:List Ä).toArray 0 })] (p70 own capt σ) H2 { s2 with heap:=h1,toks:=s2.toks + ([]:List (Str × Ä)).length }:=by
  refine⟨okX,rfl,I2.bare,Un.kept old,⟨_,hns1,λi x v e1 e2 _=>L90 I2 S hcl hcf celFp (λc o q _ _=>⟨o.slots,old c o q⟩) _ i x v e1 e2⟩,λx c e=>?_,?_,λx c e=>I2.freeC x c (hcl x c e),λp hp=>?_,I2.hok.kept old,?_⟩
  ·obtain⟨v,q⟩:=I2.cell x c (hcl x c e);exact⟨v,q.keeps old⟩
  ·exact I2.hok.fresh (by show s2.heap.objs.size<=h3.objs.size;omega)
  ·have hp':p=(s2.heap.objs.size,{ cls:=.type "list",data:=.seq ([]:List Ä).toArray 0 }):=by simpa using hp
   subst hp';exact⟨hacc,I2.hok.fresh (É _),hDC,λz=>À4 _ (frLt _ z),λv z=>by cases z⟩
  ·show(p70 own capt σ).length=(d30 own capt).length;simp[p70,d30]
 have b81:∀ {pl:List (Æ × Obj)}{H':Hp},(∀ p∈pl,p.1 ∉ fp)->(∀ b∈fp,H' b=none)->∀ b∈fp,V60 (c30 X (d30 own capt) sc cl h3.objs.size s2 H2 fp) pl H' b:=λ{pl H'} hp hn b hb =>
  ⟨hn b hb,(below b (fpLt b hb)).1,fpFr b hb,.inl hb,λx c e z=>celFp x c (hcl x c e) (z ▸ hb),λp hpp z=>hp p (by simpa using hpp) (z ▸ hb)⟩
 have hDfp:s2.heap.objs.size ∉ fp:=λz=>À4 _ (fpLt _ z);have loop:∀ s3:Å,s3={ s2 with heap:=h1,toks:=s2.toks + ([]:List (Str × Ä)).length } ->
   Ï6 (Ø X.prog X.w) X.A (.compLoop (.ListComp el [⟨tg,src,tests,0⟩] sc ps) 0 (.ref it) (.ref s2.heap.objs.size) (compEnvC sc cl h3.objs.size X.env)) (RR (.ref s2.heap.objs.size) h3.objs.size) s3:=by
  rintro s3 rfl;refine i61 (λn s'=>∃ i ys H' its k,Inv (c30 X (d30 own capt) sc cl h3.objs.size s2 H2 fp) [(s2.heap.objs.size,{ cls:=.type "list",data:=.seq (toArray its) k })] (p70 own capt σ) H' s'/\tn i s'.heap/\(∀ b∈fp,H' b=none)/\Vals ys its/\ys.length<=sizeLine/\W i n ys H') ?_ m0
   ⟨0,[],H2,[],0,start,T.keep _ _ _ st2 λb _ o e=>old b o e,λb hb=>(f2 b hb).1,.nil,Å2 _,w0⟩
  rintro n s' ⟨i,ys,H',its,k,I',st',fr',hv,hz,w'⟩;have pinD:∀ p∈[((s2.heap.objs.size:Æ),({ cls:=.type "list",data:=.seq (toArray its) k }:Obj))],p.1 ∉ fp:=λp hp=>by
   have hp':p=(s2.heap.objs.size,{ cls:=.type "list",data:=.seq (toArray its) k }):=by simpa using hp
   subst hp';exact hDfp
  rcases turn i n ys H' w' with ⟨stop,q⟩ | ⟨go,hlt,N,hN,step⟩
  ·refine thn (T.done (c30 X (d30 own capt) sc cl h3.objs.size s2 H2 fp) rfl rfl rfl hc i _ s' _ H' NoX I' (b81 pinD fr') st' stop) λr s1 hr=>?_;obtain⟨hr,I1⟩:=hr;subst hr;obtain⟨gD,nD,_,_,_⟩:=I1.pin _ (è _ Ë);obtain⟨m',hn',_⟩:=id I1.loc;have un:Un (frs X.stack) fp H2 (upd H' s2.heap.objs.size (.lst ys)) s2.heap s1.heap:=by
    have u:=I1.base;have nD2:H2 s2.heap.objs.size=none:=I2.hok.fresh (É _);refine⟨u.keep,u.slot,λb o e n hx=>?_,u.there,λb xs e=>?_,λb o xs e=>?_,λb ps' e=>?_⟩
    ·rw[a40 (below b (Ü e)).2];exact u.free b o e n hx
    ·rw[a40 (b00 e nD2)];exact u.tups b xs e
    ·rw[a40 (b00 e nD2)];exact u.frzs b o xs e
    ·obtain⟨more,e'⟩:=u.tbls b ps' e;exact⟨more,by rw[a40 (b00 e nD2)];exact e'⟩
   have IX:Inv X pins σ (upd H' s2.heap.objs.size (.lst ys)) s1:=I2.l52 I1.os un (I1.hok.x61 nD hv hz gD) I1.bare λb hb=>⟨(f2 b hb).2.2.2.1,(f2 b hb).2.1,(f2 b hb).2.2.2.2.1,(f2 b hb).2.2.2.2.2⟩;refine hRR _ _ _ ⟨_,_,m',rfl,IX,?_,hn',q _ nD⟩;exact I2.b81 ∅ (by rw[a40 hDC.symm];exact I1.free)
  ·refine thn (T.item (c30 X (d30 own capt) sc cl h3.objs.size s2 H2 fp) rfl rfl rfl hc i _ s' _ H' NoX I' (b81 pinD fr') st' go) λr s1 hr=>?_;obtain⟨u,hr,h4⟩:=hr;subst hr;refine thn h4 λ_ s5 hr5=>?_;obtain⟨x,H5,I5,r5,y5,st5,fr5⟩:=hr5;have I5p:=I5.pinned (b81 pinD fr5) (T.obj _ _ st5);refine thn (hg _ _ _ _ _ s5 _ H5 x u _ I5p r5 (step x H5 y5)) λ_ s6 hr6=>?_;obtain⟨σ6,H6,I6,q6⟩:=hr6;refine thn (ht _ _ _ _ _ s6 σ6 H6 _ I6 q6) λok s7 hr7=>?_;obtain⟨H7,I7,q7⟩:=hr7;have memFp:∀ {pl:List (Æ × Obj)}{b:Æ}{o:Obj},b∈fp->s5.heap.get? b=some o->(b,o)∈([]:List (Æ × Obj))++(pl++y90 fp s5.heap):=λhb e=>è _ (è _ (j90 hb e));cases ok with
   |false =>
    rw[if_neg Ò] at q7 ⊢;obtain⟨m',hm,w7⟩:=hN _ _ q7;refine⟨m',hm,i + 1,ys,H7,its,k,reset (I7.y80 λp hp=>I7.pin p (è _ (É0 _ hp))),T.keep _ _ _ st5 λb hb o e=>(I7.pin (b,o) (memFp hb e)).1,λb hb=>?_,hv,hz,w7⟩;obtain⟨o,e,_⟩:=T.obj _ _ st5 b hb;exact(I7.pin (b,o) (memFp hb e)).2.1
   |true =>
    rw[if_pos rfl] at q7 ⊢;refine thn (he _ _ f2 _ s7 σ6 H7 _ I7 q7) λuv s8 hr8=>?_;obtain⟨y,H8,I8,r8,q8⟩:=hr8;obtain⟨m',hm,w8⟩:=hN _ _ q8;obtain⟨gD,nD,dC,dF,_⟩:=I8.pin _ (è _ (É0 _ Ë));refine append_at gD (λh9 sb hD9=>?_) (by show(toArray its).size<=sizeLine;rw[Ó,← hv.length];exact hz)
    have I8a:Inv (c30 X (d30 own capt) sc cl h3.objs.size s2 H2 fp) (y90 fp s5.heap) σ6 H8 s8:=I8.y80 λp hp=>I8.pin p (è _ (è _ hp));have I9:Inv (c30 X (d30 own capt) sc cl h3.objs.size s2 H2 fp) (y90 fp s5.heap) σ6 H8 { s8 with heap:=h9 }:=I8a.turned (t':=s8.toks) (λb o hb e=>(sb.2 b hb).trans e) nD dC (.inr (É _))
     (λx c e z=>À4 s2.heap.objs.size (by have:=celLt x c (hcl x c e);rw[z] at this;exact this)) (λp hp z=>hDfp (z ▸ (K40 (by simpa using hp)).1))
    rw[List.push_toArray] at hD9;refine⟨m',hm,i + 1,ys++[y],H8,its++[uv],k + 1,(reset I9).y80 λp hp=>?_,T.keep _ _ _ st5 λb hb o e=>?_,λb hb=>?_,hv.append (.cons r8 .nil),by rw[À5];exact hlt,w8⟩
    ·have hp':p=(s2.heap.objs.size,{ cls:=.type "list",data:=.seq (toArray (its++[uv])) (k + 1) }):=by simpa using hp
     subst hp';exact⟨hD9,nD,dC,dF,λv z=>by cases z⟩
    ·exact(I9.pin (b,o) (è _ (j90 hb e))).1
    ·obtain⟨o,e,_⟩:=T.obj _ _ st5 b hb;exact(I9.pin (b,o) (è _ (j90 hb e))).2.1
 exact codeAny_compStart_list (loop _ rfl) (T.self _ 0 _ _ _ (T.keep _ _ _ st2 λb _ o e=>old b o e) (loop _ rfl))
end
section
variable {X:Cx}{sc:À3}{own:List Str}{capt:List (Str × Nat)}{el tg src:Î}{tests:List Î}{ps pos:Pos}{wi:TI}{g:TG}{tt:TT}{te:TE}
theorem i81(hc:X.calm=true)(S:z20 X sc own capt)(hi:PI X tg src wi)(hg:∀ cl C s H fp,PG (c30 X (d30 own capt) sc cl C s H fp) tg g)
  (ht:∀ cl C s H fp,PTs (c30 X (d30 own capt) sc cl C s H fp) tests tt) (he:∀ cl C s H fp,PE (c30 X (d30 own capt) sc cl C s H fp) el te)
  (hs:∀ x,Ç8 src X.env x=pure x:=by intro _;rfl):PE X (.ListComp el [⟨tg,src,tests,0⟩] sc ps) (L61 own capt wi g tt te):=by
 intro pins s σ H Q I h;obtain⟨cl,hclos,hcl,hcf⟩:=R20 (scope:=sc) (env:=X.env) λy hy hk=>I.ok.has y.1 (S.frees y hy hk);rw[eval_ListComp];refine Ð0 (use:=none) rfl hs hclos S.kind S.locs (thn (hi pins s σ H _ I h) λv s1 h1=>thn h1 λitv s2 h2=>?_);obtain⟨it,fp,tn,J,H2,e,I2,T,st2,f2,hw⟩:=h2;subst e;refine C90 hc S hcl hcf (hg cl) (ht cl) (λC fp _=>he cl C _ _ fp) I2 T st2 f2 hw (RR:=λacc C=>compPost (Ø X.prog X.w) X.A X.xe none (EP X pins σ Q) acc C) λacc C s' hf=>?_;obtain⟨D,H',m',rfl,I',f',ns',r⟩:=hf;exact⟨m',ns',λh' sb=>⟨.ref D,H',I'.turned (t':=s'.toks) (λb o hb e=>(sb.2 b hb).trans e) f'.1 f'.2.1 f'.2.2.2.1 f'.2.2.2.2.1 f'.2.2.2.2.2,rfl,r⟩⟩
theorem L71{i:Nat}{y:Str}{py:Pos}(hN:X.N.Nodup)(hiN:X.N[i]?=some y)(hy:Loc X.env.scope y)(hsw:Í9 (.ListComp el [⟨tg,src,tests,0⟩] sc ps) (some (.Name y py)) pos.line X.env=pure true)
  (hc:X.calm=true) (S:z20 X sc own capt) (hi:PI X tg src wi) (hg:∀ cl C s H fp,PG (c30 X (d30 own capt) sc cl C s H fp) tg g)
  (ht:∀ cl C s H fp,PTs (c30 X (d30 own capt) sc cl C s H fp) tests tt) (he:∀ cl C s H fp,PE (c30 X (d30 own capt) sc cl C s H fp) el te)
  (hs:∀ x,Ç8 src X.env x=pure x:=by intro _;rfl) (hf:X.fn y=true∨X.env.scope.names.lookup y=some .local:=by first | exact .inl rfl | exact .inr rfl | assumption) :
  PS X (.Assign [.Name y py] (.ListComp el [⟨tg,src,tests,0⟩] sc ps) pos) (X91 (L61 own capt wi g tt te) (K20 i)):=by
 intro pins s σ H D I h;obtain⟨cl,hclos,hcl,hcf⟩:=R20 (scope:=sc) (env:=X.env) λy hy hk=>I.ok.has y.1 (S.frees y hy hk);rw[exec_Assign_Name_used _ _ _ _ hsw];refine À (Ö8 (À ?_));show Ñ _ X.A (do let _ ← comprehension (.ListComp el [⟨tg,src,tests,0⟩] sc ps) sc X.env _ (newList []) false (eval src X.env) (some (Õ2 (.Name y py) X.env))) _ _ s;refine À (Ä6 (Ð0 (use:=some (Õ2 (.Name y py) X.env)) (Q:=λ_ s'=>SP X pins D .next s') rfl hs hclos S.kind S.locs
  (thn (hi pins s σ H _ I h) λv s1 h1=>thn h1 λitv s2 h2=>?_)) (λ_ s' hq=>Ç (Ç hq)) λ_ _ e=>e)
 obtain⟨it,fp,tn,J,H2,e,I2,T,st2,f2,hw⟩:=h2;subst e;refine C90 hc S hcl hcf (hg cl) (ht cl) (λC fp _=>he cl C _ _ fp) I2 T st2 f2 hw (RR:=λacc C=>compPost (Ø X.prog X.w) X.A X.xe (some (Õ2 (.Name y py) X.env)) (λ_ s'=>SP X pins D .next s') acc C) λacc C s' hfn=>?_;obtain⟨DA,H',m',rfl,I',f',ns',r⟩:=hfn;show Ñ _ X.A (Õ2 (.Name y py) X.env (.ref DA)) _ _ _;refine Ú4 (K00 (v:=.ref DA) I' hN hiN hy rfl (λs3 I3 ha=>?_) hf);obtain⟨a,sb,ha⟩:=ha;have hCa:C≠a:=λz=>by
  rcases ha with q | q
  ·exact f'.2.1 (z.trans q)
  ·exact f'.2.2.2.2.1 _ _ q z.symm
 exact⟨m',ns'.sameBut sb hCa,λh' sb'=>⟨_,H',I3.turned (t':=s3.toks) (λb o hb e=>(sb'.2 b hb).trans e) f'.1 f'.2.1 f'.2.2.2.1 f'.2.2.2.2.1 f'.2.2.2.2.2,r⟩⟩
end
end L2
namespace L2
open PySem
section
variable {P:â}{w:õ}{A:ü}{E:Ä->Å->Prop}{s:Å}
theorem n60(hr:s.heap.IsTupleIter r t k)(ht:s.heap.IsTuple t vs)(hx:vs[k]?=some x)
  (hQ:∀ h',h'.IsTupleIter r t (k + 1)->Þ3 r s.heap h'->Q x { s with heap:=h' }):Ñ (Ø P w) A (nextOf (.ref r)) Q E s:=by
 obtain⟨o,ho,hc,hd⟩:=id hr;obtain⟨ot,hot,_,nt,hdt⟩:=ht;unfold nextOf;refine À (Á8 (name:=ç "__next__") hr.typeIs È1 (Â8 È1 hr.typeIs Ý4 ?_ (Ý1 _)));show Ñ _ _ (field (.ref r) 0 >>= _) _ _ s;refine À (À7 ho hd (x:=.ref t) rfl ?_);show Ñ _ _ (if (þ t == á)=true then _ else _) _ _ s;rw[if_neg (show ¬ ((þ t == á)=true) from Ò)];show Ñ _ _ (field (.ref r) 1 >>= _) _ _ s;refine À (À7 ho hd (x:=.int k 0) rfl ?_);show Ñ _ _ (seqItems? (.ref t) >>= _) _ _ s;refine À (Ä5 hot hdt ?_);simp only[Â7,hx];refine À (wpAny_setField ho hd (by simp) (Ç ⟨x,rfl,Ç (hQ _ ⟨_,Ð8 _ ho (Obj.isFreed_of_fields (Obj.data_mapFields hd _)),(Obj.cls_mapFields ..).trans hc,by rw[Obj.data_mapFields hd];simp[rawInt]⟩ (Æ4 ..))⟩))
theorem k70(hh:A.handled=none)(hr:s.heap.IsTupleIter r t k)(ht:s.heap.IsTuple t vs)(hx:vs[k]?=none)
  (hE:∀ h' e,ï.ExtBut r s.heap h'->(∃ o,h'.get? e=some o/\o.cls=.type "StopIteration")->E (.ref e) { s with heap:=h' }):Ñ (Ø P w) A (nextOf (.ref r)) Q E s:=by
 obtain⟨o,ho,hc,hd⟩:=id hr;obtain⟨ot,hot,_,nt,hdt⟩:=ht;unfold nextOf;refine À (Á8 (name:=ç "__next__") hr.typeIs È1 (Â8 È1 hr.typeIs Ý4 ?_ (Ý1 _)));show Ñ _ _ (field (.ref r) 0 >>= _) _ _ s;refine À (À7 ho hd (x:=.ref t) rfl ?_);show Ñ _ _ (if (þ t == á)=true then _ else _) _ _ s;rw[if_neg (show ¬ ((þ t == á)=true) from Ò)];show Ñ _ _ (field (.ref r) 1 >>= _) _ _ s;refine À (À7 ho hd (x:=.int k 0) rfl ?_);show Ñ _ _ (seqItems? (.ref t) >>= _) _ _ s;refine À (Ä5 hot hdt ?_);simp only[Â7,hx];refine À (Ë6 (À (wpAny_setField ho hd (by simp) ?_)));show Ñ _ _ (newExc (.type "StopIteration") [] >>= _) _ _ _
 refine À ?_;simp only[newExc,newTuple];refine À (î ?_ (by size_fits));refine À (m:=firstArgMember _ _) (Ý3 (a:=á) (by first | rfl | (simp only[firstArgMember];rfl)) ?_)
 refine î ?_ (by size_fits);simp only[raiseNew];refine À (wpAny_handled ?_)
 first | rw[show A.in1.handled=none from hh] | rw[hh]
 refine À (Ç (wpAny_throw (hE _ _ (((Æ4 ..).extBut.push _).push _) ⟨_,Ì _ rfl,rfl⟩)))
theorem i91{z TI TO i1 i2 l1 l2:Æ}{k:Nat}{xs ys:Array Ä}{x y a b:Ä}{Q:Option Ä->Å->Prop}(D:ZipApart z TI TO i1 i2 l1 l2)(hz:Î6 s.heap z TI TO .none)
  (hTI:Ä9 s.heap TI (.ref i1) (.ref i2)) (hTO:Ä9 s.heap TO a b) (h1:s.heap.IsTupleIter i1 l1 k) (h2:s.heap.IsTupleIter i2 l2 k) (hl1:s.heap.IsTuple l1 xs) (hl2:s.heap.IsTuple l2 ys)
  (hx:xs[k]?=some x) (hy:ys[k]?=some y)
  (hQ:∀ h',Î6 h' z TI TO (rawInt s.heap.objs.size)->Ä9 h' TO x y->h'.IsTupleIter i1 l1 (k + 1)->h'.IsTupleIter i2 l2 (k + 1)->Ä9 h' s.heap.objs.size x y->h'.objs.size=s.heap.objs.size + 1 ->
   (∀ c o,c≠z->c≠TO->c≠i1->c≠i2->s.heap.get? c=some o->h'.get? c=some o)->Q (some (.ref s.heap.objs.size)) { s with heap:=h' }):Ñ (Ø P w) A (Ø9 (.ref z)) Q E s:=by
 have hT:s.TypeIs (.ref z) "zip":=⟨_,hz,rfl⟩;unfold Ø9;refine À (Ø0 (Á8 (name:=ç "__next__") hT Ñ7 (Â8 Ñ7 hT F.entry_zip_next ?_ (F.args_zip_next_1 _))));show Ñ _ _ (field (.ref z) 2 >>= _) _ _ _;refine À (À7 hz rfl (x:=.bool false) rfl ?_);show Ñ _ _ (field (.ref z) 3 >>= _) _ _ _;refine À (À7 hz rfl (x:=.ref TI) rfl ?_);refine À (Ä5 hTI rfl ?_);show Ñ _ _ (Ê5 (.ref z) >>= _) _ _ _;refine À ?_;unfold Ê5;refine À (À7 hz rfl (x:=.none) rfl (Ç ?_));simp only[if_true];refine À (Ë6 (À (À7 hz rfl (x:=.ref TO) rfl (À (Æ6 hz (by simp) λg1 z1 e1=>?_)))))
 replace z1:Î6 g1 z TI TO .ellipsis:=z1
 refine À ?_;simp only[List.zipIdx_cons,List.zipIdx_nil,Ê6,Ó8];refine À (À (Ö9 ?_));show Ñ _ _ (nextOf (.ref i1) >>= _) _ _ _;refine À (n60 (h1.extBut e1.extBut D.i1z) (hl1.extBut e1.extBut D.l1z) hx λg2 r2 e2=>Ç ?_);have t2:Ä9 g2 TO a b:=e2.extBut _ _ D.TOi1 (e1.extBut _ _ D.TOz hTO);refine À (Ä5 t2 rfl (À (Ô7 t2 λg3 t3 e3=>?_)))
 replace t3:Ä9 g3 TO x b:=t3
 refine À (wpAny_letGo (Ç ?_));refine À (À (Ö9 ?_));show Ñ _ _ (nextOf (.ref i2) >>= _) _ _ _;refine À (n60 (((h2.extBut e1.extBut D.i2z).extBut e2.extBut D.i12.symm).extBut e3.extBut D.TOi2.symm) (((hl2.extBut e1.extBut D.l2z).extBut e2.extBut D.l2i1).extBut e3.extBut D.l2TO) hy λg4 r4 e4=>Ç ?_);have t4:Ä9 g4 TO x b:=e4.extBut _ _ D.TOi2 t3;refine À (Ä5 t4 rfl (À (Ô7 t4 λg5 t5 e5=>?_)))
 replace t5:Ä9 g5 TO x y:=t5
 refine À (wpAny_letGo (Ç (Ç ?_)));refine À (Ä5 t5 rfl (À (wpAny_newTuple ?_)));have sz:g5.objs.size=s.heap.objs.size:=by rw[e5.1,e4.1,e3.1,e2.1,e1.1]
 have z5:Î6 g5 z TI TO .ellipsis:=e5.extBut _ _ D.TOz.symm (e4.extBut _ _ D.i2z.symm (e3.extBut _ _ D.TOz.symm (e2.extBut _ _ D.i1z.symm z1)));have kp:∀ c o,c≠z->c≠TO->c≠i1->c≠i2->s.heap.get? c=some o->g5.get? c=some o:=λc o c1 c2 c3 c4 e=>e5.extBut _ _ c2 (e4.extBut _ _ c4 (e3.extBut _ _ c2 (e2.extBut _ _ c3 (e1.extBut _ _ c1 e))));have r1:g5.IsTupleIter i1 l1 (k + 1):=((r2.extBut e3.extBut D.TOi1.symm).extBut e4.extBut D.i12).extBut e5.extBut D.TOi1.symm;have r5:g5.IsTupleIter i2 l2 (k + 1):=r4.extBut e5.extBut D.TOi2.symm;have zl:z < g5.objs.size:=Ü z5;show Ñ _ _ (ownedTupleHandOut (.ref z) (.ref g5.objs.size) >>= _) _ _ _;refine À ?_;unfold ownedTupleHandOut;have z6:Î6 (g5.push { cls:=.type "tuple",data:=.seq #[x,y] }) z TI TO .ellipsis:=Ã _ z5;refine À (Æ6 z6 (by simp) λg7 z7 e7=>?_)
 replace z7:Î6 g7 z TI TO (rawInt g5.objs.size):=z7
 refine Æ6 z7 (by simp) λg8 z8 e8=>?_
 replace z8:Î6 g8 z TI TO (rawInt g5.objs.size):=z8
 have up:∀ c o,c≠z->g5.get? c=some o->g8.get? c=some o:=λc o c1 e=>e8.extBut _ _ c1 (e7.extBut _ _ c1 (Ã _ e));have t8:Ä9 g8 g5.objs.size x y:=e8.extBut _ _ (Ò8 zl) (e7.extBut _ _ (Ò8 zl) (Ì _ rfl));have s8:g8.objs.size=g5.objs.size + 1:=by rw[e8.1,e7.1,Æ7]
 rw[sz] at z8 t8 s8;refine Ç ⟨_,rfl,?_⟩;refine Ç ?_;show Q (some (.ref g5.objs.size)) _;rw[sz];exact hQ g8 z8 (up _ _ D.TOz t5) (by obtain⟨o,ho,q⟩:=r1;exact⟨o,up _ o D.i1z ho,q⟩) (by obtain⟨o,ho,q⟩:=r5;exact⟨o,up _ o D.i2z ho,q⟩) t8 s8 λc o c1 c2 c3 c4 e=>up c o c1 (kp c o c1 c2 c3 c4 e)
theorem x81{z TI TO i1 i2 l1 l2:Æ}{k:Nat}{xs ys:Array Ä}{a b:Ä}{Q:Option Ä->Å->Prop}(hh:A.handled=none)(D:ZipApart z TI TO i1 i2 l1 l2)(hz:Î6 s.heap z TI TO .none)
  (hTI:Ä9 s.heap TI (.ref i1) (.ref i2)) (hTO:Ä9 s.heap TO a b) (h1:s.heap.IsTupleIter i1 l1 k) (h2:s.heap.IsTupleIter i2 l2 k) (hl1:s.heap.IsTuple l1 xs) (hl2:s.heap.IsTuple l2 ys)
  (hend:xs[k]?=none∨ys[k]?=none) (hQ:∀ h',(∀ c o,c≠z->c≠TO->c≠i1->c≠i2->s.heap.get? c=some o->h'.get? c=some o)->Q none { s with heap:=h' }):Ñ (Ø P w) A (Ø9 (.ref z)) Q E s:=by
 have hT:s.TypeIs (.ref z) "zip":=⟨_,hz,rfl⟩;have fin:∀ (h':ï) (e:Æ),(∀ c o,c≠z->c≠TO->c≠i1->c≠i2->s.heap.get? c=some o->h'.get? c=some o)->(∃ o,h'.get? e=some o/\o.cls=.type "StopIteration") ->
   Ñ (Ø P w) A (isInstance (.ref e) (.type "StopIteration") >>= λb=>if b=true then pure none else throw (.ref e)) Q E { s with heap:=h' }:=λh' e kp he=>by
  obtain⟨o,ho,hc⟩:=he;exact À (wpAny_isInstance (T:="StopIteration") (b:=true) ⟨o,ho,hc⟩ isSubtype_stop (Ç (hQ _ kp)))
 unfold Ø9;refine À (Ø0 (Á8 (name:=ç "__next__") hT Ñ7 (Â8 Ñ7 hT F.entry_zip_next ?_ (F.args_zip_next_1 _))));show Ñ _ _ (field (.ref z) 2 >>= _) _ _ _;refine À (À7 hz rfl (x:=.bool false) rfl ?_);show Ñ _ _ (field (.ref z) 3 >>= _) _ _ _;refine À (À7 hz rfl (x:=.ref TI) rfl ?_);refine À (Ä5 hTI rfl ?_);show Ñ _ _ (Ê5 (.ref z) >>= _) _ _ _;refine À ?_;unfold Ê5;refine À (À7 hz rfl (x:=.none) rfl (Ç ?_));simp only[if_true];refine À (Ë6 (À (À7 hz rfl (x:=.ref TO) rfl (À (Æ6 hz (by simp) λg1 z1 e1=>?_)))))
 replace z1:Î6 g1 z TI TO .ellipsis:=z1
 refine À ?_;simp only[List.zipIdx_cons,List.zipIdx_nil,Ê6,Ó8];refine À (À (Ö9 ?_));show Ñ _ _ (nextOf (.ref i1) >>= _) _ _ _;cases hx:xs[k]? with
 |none =>
  refine À (k70 hh (h1.extBut e1.extBut D.i1z) (hl1.extBut e1.extBut D.l1z) hx λg2 e e2 he=>?_);obtain⟨oe,hoe,hce⟩:=he;have z2:Î6 g2 z TI TO .ellipsis:=e2 _ _ D.i1z.symm z1;have hez:e≠z:=λq=>by subst q;rw[z2] at hoe;cases hoe;simp at hce
  exact Æ6 z2 (by simp) λg3 _ e3=>fin g3 e (λc o c1 _ c3 _ q=>e3.extBut _ _ c1 (e2 _ _ c3 (e1.extBut _ _ c1 q))) ⟨oe,e3.extBut _ _ hez hoe,hce⟩
 |some x =>
  have hy:ys[k]?=none:=by rcases hend with q | q;rw[hx] at q;cases q;exact q
  refine À (n60 (h1.extBut e1.extBut D.i1z) (hl1.extBut e1.extBut D.l1z) hx λg2 r2 e2=>Ç ?_);have t2:Ä9 g2 TO a b:=e2.extBut _ _ D.TOi1 (e1.extBut _ _ D.TOz hTO);refine À (Ä5 t2 rfl (À (Ô7 t2 λg3 t3 e3=>?_)));refine À (wpAny_letGo (Ç ?_));refine À (À (Ö9 ?_));show Ñ _ _ (nextOf (.ref i2) >>= _) _ _ _;refine À (k70 hh (((h2.extBut e1.extBut D.i2z).extBut e2.extBut D.i12.symm).extBut e3.extBut D.TOi2.symm) (((hl2.extBut e1.extBut D.l2z).extBut e2.extBut D.l2i1).extBut e3.extBut D.l2TO) hy λg4 e e4 he=>?_);obtain⟨oe,hoe,hce⟩:=he;have z4:Î6 g4 z TI TO .ellipsis:=e4 _ _ D.i2z.symm (e3.extBut _ _ D.TOz.symm (e2.extBut _ _ D.i1z.symm z1));have hez:e≠z:=λq=>by subst q;rw[z4] at hoe;cases hoe;simp at hce
  exact Æ6 z4 (by simp) λg5 _ e5=>fin g5 e (λc o c1 c2 c3 c4 q=>e5.extBut _ _ c1 (e4 _ _ c4 (e3.extBut _ _ c2 (e2.extBut _ _ c3 (e1.extBut _ _ c1 q))))) ⟨oe,e5.extBut _ _ hez hoe,hce⟩
abbrev zT1(h:ï)(l1:Æ):Heap:=h.push { cls:=.type "tuple_iterator",data:=.fields #[.ref l1,.int 0 0] }
abbrev zT2(h:ï)(l1 l2:Æ):Heap:=(zT1 h l1).push { cls:=.type "tuple_iterator",data:=.fields #[.ref l2,.int 0 0] }
abbrev zT3(h:ï)(l1 l2:Æ):Heap:=(zT2 h l1 l2).push { cls:=.type "tuple",data:=.seq #[.ref h.objs.size,.ref (zT1 h l1).objs.size] }
abbrev zT4(h:ï)(l1 l2:Æ):Heap:=(zT3 h l1 l2).push { cls:=.type "tuple",data:=.seq #[.none,.none] }
abbrev zT5(h:ï)(l1 l2:Æ):Heap:=(zT4 h l1 l2).push { cls:=.type "zip",data:=.fields #[.none,.bool false,.bool false,.ref (zT2 h l1 l2).objs.size,.ref (zT3 h l1 l2).objs.size] }
theorem c61(l1 l2:Æ)(xs ys:Array Ä) :
  Meets (Â0.«zip.__new__» ⟨[.type "zip",.ref l1,.ref l2],[]⟩) (λ_ R s=>s.heap.IsTuple l1 xs/\s.heap.IsTuple l2 ys/\R (.ok (.ret (.ref (zT4 s.heap l1 l2).objs.size))) { s with heap:=zT5 s.heap l1 l2 }) :=
 .of_wp λP w A R s h=>by
  obtain⟨hp,g,d,tk,os⟩:=s;obtain⟨hl1,hl2,h⟩:=h;have hsub:=sub_zip;have hL1:Ï9 (Å.heap ⟨hp,g,d,tk,os⟩) l1 xs:=hl1;have hL2:Ï9 (Å.heap ⟨hp.push { cls:=.type "tuple_iterator",data:=.fields #[.ref l1,.int 0 0] },g,d,tk,os⟩) l2 ys:=Ï9.push hl2 _
  wp_walk using É6 hL1,É6 hL2
  exact⟨_,rfl,h⟩
theorem j01(hl1:s.heap.IsTuple l1 xs)(hl2:s.heap.IsTuple l2 ys)
  (h:∀ h',Î6 h' (s.heap.objs.size + 4) (s.heap.objs.size + 2) (s.heap.objs.size + 3) .none->Ä9 h' (s.heap.objs.size + 2) (.ref s.heap.objs.size) (.ref (s.heap.objs.size + 1))->Ä9 h' (s.heap.objs.size + 3) .none .none ->
   h'.IsTupleIter s.heap.objs.size l1 0->h'.IsTupleIter (s.heap.objs.size + 1) l2 0->(∀ c o,s.heap.get? c=some o->h'.get? c=some o)->Q (.ref (s.heap.objs.size + 4)) { s with heap:=h' }) :
  Ñ (Ø P w) A (call (.type "zip") [.ref l1,.ref l2]) Q E s:=by
 refine callType_new F.called_zip (-0) (F.typeCall_zip_2 _ _) (F.newCall_zip_2 _ _) (λobj=>F.args_object_init_3 obj _ _) F.entry_zip_new (c61 l1 l2 xs ys) ⟨hl1,hl2,?_⟩
 have n1:(zT1 s.heap l1).objs.size=s.heap.objs.size + 1:=Æ7 ..;have n2:(zT2 s.heap l1 l2).objs.size=s.heap.objs.size + 2:=by rw[Æ7,n1]
 have n3:(zT3 s.heap l1 l2).objs.size=s.heap.objs.size + 3:=by rw[Æ7,n2]
 have n4:(zT4 s.heap l1 l2).objs.size=s.heap.objs.size + 4:=by rw[Æ7,n3]
 have g5:(zT5 s.heap l1 l2).get? (zT4 s.heap l1 l2).objs.size=some _:=Ì _ rfl;have g4:(zT5 s.heap l1 l2).get? (zT3 s.heap l1 l2).objs.size=some _:=Ã _ (Ì _ rfl);have g3:(zT5 s.heap l1 l2).get? (zT2 s.heap l1 l2).objs.size=some _:=Ã _ (Ã _ (Ì _ rfl));have g2:(zT5 s.heap l1 l2).get? (zT1 s.heap l1).objs.size=some _:=Ã _ (Ã _ (Ã _ (Ì _ rfl)));have g1:(zT5 s.heap l1 l2).get? s.heap.objs.size=some _:=Ã _ (Ã _ (Ã _ (Ã _ (Ì _ rfl))));show _/\_;rw[n2,n3,n4] at g5;rw[n1,n2] at g3;rw[n3] at g4;rw[n1] at g2;rw[n4];exact⟨⟨_,g5,rfl⟩,h _ g5 g3 g4 ⟨_,g1,rfl,rfl⟩ ⟨_,g2,rfl,rfl⟩ λc o q=>Ã _ (Ã _ (Ã _ (Ã _ (Ã _ q))))⟩
end
open PySem PySem.Spec PyProof.Rows
section
variable {X:Cx}{pins:List (Æ × Obj)}{σ:St}{H:Hp}{s:Å}{h':ï}
theorem Inv.F40{t':Nat}{ch:List Æ}(I:Inv X pins σ H s)(hf:∀ b∈ch,V60 X pins H b)(k:∀ b o,b ∉ ch->s.heap.get? b=some o->h'.get? b=some o):Inv X pins σ H { s with heap:=h',toks:=t' }:=by
 have nch:∀ b u,H b=some u->b ∉ ch:=λb u e z=>by rw[(hf b z).1] at e;cases e
 refine I.step (g':=s.gens) (d':=s.drawn) (ch:=ch) (λb hb=>⟨(hf b hb).2.2.2.1,(hf b hb).2.1,(hf b hb).2.2.2.2.1,(hf b hb).2.2.2.2.2⟩) (λb o _ _ hc e _=>k b o hc e) (λb o _ _ hc e _=>⟨o.slots,k b o hc e⟩) (λ_ _ _ _ n=>n)
  (λb o hc e=>⟨o,k b o hc e⟩) (λ_ _ e=>e) (λ_ _ _ e=>e) (λb ps e=>⟨#[],by rw[e];simp⟩) (λm hm=>?_) (λb u e=>?_) I.bare
 ·obtain⟨o,es,ep,ho,r⟩:=hm;exact⟨o,es,ep,k _ o (λz=>(hf _ z).2.1 rfl) ho,r⟩
 ·refine(I.hok b u e).w31 (λc v hc q=>k c v ?_ q) (λ_ q=>q) λ_ _ q=>q;rcases hc with z | z
  ·rw[z];exact nch b u e
  ·exact nch c _ z
theorem Inv.x61{T:Æ}{o:HO}(I:Inv X pins σ H s)(f:V60 X pins H T)(h0:X.s₀.heap.objs.size<=T)(hok:HOk X.prog X.w (upd H T o) s.heap):Inv X pins σ (upd H T o) s:=by
 have u:=I.base;refine⟨I.ok,I.os,I.bare,⟨u.keep,u.slot,λb ob e n hx=>?_,u.there,λb xs e=>?_,λb ob xs e=>?_,λb ps e=>?_⟩,I.loc,I.cell,?_,λx c e=>?_,λp hp=>?_,hok,I.len⟩
 ·rw[a40 (Û (Ö (Ü e) h0))];exact u.free b ob e n hx
 ·have z:=u.tups b xs e;rw[a40 (b00 z f.1)];exact z
 ·have z:=u.frzs b ob xs e;rw[a40 (b00 z f.1)];exact z
 ·obtain⟨more,z⟩:=u.tbls b ps e;exact⟨more,by rw[a40 (b00 z f.1)];exact z⟩
 ·rw[a40 f.2.1.symm];exact I.free
 ·rw[a40 (f.2.2.2.2.1 x c e)];exact I.freeC x c e
 ·obtain⟨e,n,r⟩:=I.pin p hp;exact⟨e,by rw[a40 (f.2.2.2.2.2 p hp)];exact n,r⟩
theorem HOk.G81{P:â}{w:õ}{H:Hp}{h:ï}{D:Æ}{ys:List V}{its:List Ä}(x:HOk P w H h)(hn:H D=none)(hv:Vals ys its)(hz:ys.length<=sizeLine)(ho:Ì3 h D its.toArray):HOk P w (upd H D (.tup ys)) h:=λb u e=>by
 by_cases hb:b=D
 ·subst hb;rw[b10] at e;cases e;exact⟨hz,its,hv,ho⟩
 ·rw[a40 hb] at e;exact(x b u e).w31 (λc v _ q=>q) (λc q=>by rw[a40 (b00 q hn)];exact q) λc xs q=>by rw[a40 (b00 q hn)];exact q
end
def SqB:Bool->Â->Hp->Æ->List V->Prop
 |true=>SqL|false=>SqT
def M00:Bool->ï->Æ->Æ->Nat->Prop
 |true=>ï.IsListIter|false=>ï.IsTupleIter
def x91:Bool->ï->Æ->Array Ä->Prop
 |true=>ï.IsList|false=>Ï9
theorem M00.obj{b:Bool}{h:ï}{it a:Æ}{i:Nat}(st:M00 b h it a i):∃ o,h.get? it=some o/\(∀ v,o.data=.cell v->False)/\∀ h':ï,h'.get? it=some o->M00 b h' it a i:=by
 cases b with
 |true=>obtain⟨o,g,c,d⟩:=st;exact⟨o,g,(λv e=>by rw[d] at e;cases e),λh' k=>⟨o,k,c,d⟩⟩
 |false=>obtain⟨o,g,c,d⟩:=st;exact⟨o,g,(λv e=>by rw[d] at e;cases e),λh' k=>⟨o,k,c,d⟩⟩
theorem Inv.y01(I:Inv X pins σ H s)(h:SqB b X.K H a xs):∃ its:List Ä,Vals xs its/\x91 b s.heap a its.toArray/\a < s.heap.objs.size/\∀ ys,SqB b X.K H a ys->ys=xs:=by
 cases b with
 |true=>obtain⟨its,r,p,_⟩:=I.list h;exact⟨its,r,p.isList,by obtain⟨o,e,_⟩:=p.isList;exact Ü e,λys h'=>I.V50 h' h⟩
 |false=>obtain⟨its,r,p,_⟩:=I.tuple h;exact⟨its,r,p,by obtain⟨o,e,_⟩:=p;exact Ü e,λys h'=>I.K10 h' h⟩
section
variable {P:â}{w:õ}{A:ü}{E:Ä->Å->Prop}{s:Å}{b:Bool}{z TI TO i1 i2 l1 l2:Æ}{k:Nat}{xs ys:Array Ä}{x y p q:Ä}
theorem j11{Q:Option Ä->Å->Prop}(D:ZipApart z TI TO i1 i2 l1 l2)(hz:Î6 s.heap z TI TO .none)(hTI:Ä9 s.heap TI (.ref i1) (.ref i2))(hTO:Ä9 s.heap TO p q)(h1:M00 b s.heap i1 l1 k)(h2:M00 b s.heap i2 l2 k)(hl1:x91 b s.heap l1 xs)(hl2:x91 b s.heap l2 ys)(hx:xs[k]?=some x)(hy:ys[k]?=some y)
  (hQ:∀ h',Î6 h' z TI TO (rawInt s.heap.objs.size)->Ä9 h' TO x y->M00 b h' i1 l1 (k + 1)->M00 b h' i2 l2 (k + 1)->Ä9 h' s.heap.objs.size x y->h'.objs.size=s.heap.objs.size + 1 ->
   (∀ c o,c≠z->c≠TO->c≠i1->c≠i2->s.heap.get? c=some o->h'.get? c=some o)->Q (some (.ref s.heap.objs.size)) { s with heap:=h' }):Ñ (Ø P w) A (Ø9 (.ref z)) Q E s:=match b,h1,h2,hl1,hl2,hQ with
 |true,h1,h2,hl1,hl2,hQ=>wpAny_pyNext_zip_item D hz hTI hTO h1 h2 hl1 hl2 hx hy hQ|false,h1,h2,hl1,hl2,hQ=>i91 D hz hTI hTO h1 h2 hl1 hl2 hx hy hQ
theorem y11{Q:Option Ä->Å->Prop}(hh:A.handled=none)(D:ZipApart z TI TO i1 i2 l1 l2)(hz:Î6 s.heap z TI TO .none)(hTI:Ä9 s.heap TI (.ref i1) (.ref i2))(hTO:Ä9 s.heap TO p q)(h1:M00 b s.heap i1 l1 k)(h2:M00 b s.heap i2 l2 k)(hl1:x91 b s.heap l1 xs)(hl2:x91 b s.heap l2 ys)
  (hend:xs[k]?=none∨ys[k]?=none) (hQ:∀ h',(∀ c o,c≠z->c≠TO->c≠i1->c≠i2->s.heap.get? c=some o->h'.get? c=some o)->Q none { s with heap:=h' }):Ñ (Ø P w) A (Ø9 (.ref z)) Q E s:=match b,h1,h2,hl1,hl2 with
 |true,h1,h2,hl1,hl2=>wpAny_pyNext_zip_end hh D hz hTI hTO h1 h2 hl1 hl2 hend hQ|false,h1,h2,hl1,hl2=>x81 hh D hz hTI hTO h1 h2 hl1 hl2 hend hQ
theorem j21{Q:Ä->Å->Prop}(hl1:x91 b s.heap l1 xs)(hl2:x91 b s.heap l2 ys)
  (h:∀ h',Î6 h' (s.heap.objs.size + 4) (s.heap.objs.size + 2) (s.heap.objs.size + 3) .none->Ä9 h' (s.heap.objs.size + 2) (.ref s.heap.objs.size) (.ref (s.heap.objs.size + 1))->Ä9 h' (s.heap.objs.size + 3) .none .none ->
   M00 b h' s.heap.objs.size l1 0->M00 b h' (s.heap.objs.size + 1) l2 0->(∀ c o,s.heap.get? c=some o->h'.get? c=some o)->Q (.ref (s.heap.objs.size + 4)) { s with heap:=h' }):Ñ (Ø P w) A (call (.type "zip") [.ref l1,.ref l2]) Q E s:=match b,hl1,hl2,h with
 |true,hl1,hl2,h=>call_zip_2 hl1 hl2 λh' a1 a2 a3 a4 a5 _ a6=>h h' a1 a2 a3 a4 a5 a6|false,hl1,hl2,h=>j01 hl1 hl2 h
end
def Itz(b:Bool)(K:Â)(a c:Æ):It :=
 ⟨λi H=>∃ xs ys x y,SqB b K H a xs/\SqB b K H c ys/\xs[i]?=some x/\ys[i]?=some y,
  λi H v H'=>∃ T,v=.ref T/\H T=none/\∀ xs ys x y,SqB b K H a xs->SqB b K H c ys->xs[i]?=some x->ys[i]?=some y->H'=upd H T (.tup [x,y]),
  λi H=>∃ xs ys,SqB b K H a xs/\SqB b K H c ys/\(xs.length<=i∨ys.length<=i)⟩
theorem y21{P:â}{w:õ}{K:Â}{es:List Î}{ek:Nat}{ep:Pos}{b:Bool}{a c z TI TO i1 i2:Æ}(D:ZipApart z TI TO i1 i2 a c) :
  Turn P w K (.Tuple es ek ep) (Itz b K a c) [z,TI,TO,i1,i2] z (λi h=>Î6 h z TI TO .none/\Ä9 h TI (.ref i1) (.ref i2)/\(∃ p q,Ä9 h TO p q)/\M00 b h i1 a i/\M00 b h i2 c i) where
 mem:=by simp
 obj:=λi h st c hc=>by
  obtain⟨hz,hTI,⟨p,q,hTO⟩,h1,h2⟩:=st;obtain⟨o1,h1,d1,_⟩:=h1.obj;obtain⟨o2,h2,d2,_⟩:=h2.obj;simp only[Ã4,Â1,or_false] at hc;rcases hc with rfl | rfl | rfl | rfl | rfl
  ·exact⟨_,hz,λv e=>by cases e⟩
  ·exact⟨_,hTI,λv e=>by cases e⟩
  ·exact⟨_,hTO,λv e=>by cases e⟩
  ·exact⟨_,h1,d1⟩
  ·exact⟨_,h2,d2⟩
 keep:=λi h h' st k=>by
  obtain⟨hz,hTI,⟨p,q,hTO⟩,h1,h2⟩:=st;obtain⟨o1,h1,_,r1⟩:=h1.obj;obtain⟨o2,h2,_,r2⟩:=h2.obj;exact⟨k z (by simp) _ hz,k TI (by simp) _ hTI,⟨p,q,k TO (by simp) _ hTO⟩,r1 _ (k i1 (by simp) _ h1),r2 _ (k i2 (by simp) _ h2)⟩
 item:=by
  intro X hP hw hK hc i pins s σ H E I hf st hg;subst hP hw hK;obtain⟨xs,ys,x,y,hq1,hq2,hx,hy⟩:=hg;obtain⟨v1,rv1,p1,_,z1⟩:=I.y01 hq1;obtain⟨v2,rv2,p2,_,z2⟩:=I.y01 hq2;obtain⟨u1,hu1,ru1⟩:=rv1.get hx;obtain⟨u2,hu2,ru2⟩:=rv2.get hy;obtain⟨hz,hTI,⟨p,q,hTO⟩,h1,h2⟩:=st;refine j11 D hz hTI hTO h1 h2 p1 p2 (x:=u1) (y:=u2) (by simpa using hu1) (by simpa using hu2) λg1 gz gTO g1' g2' gT gs kp=>⟨_,rfl,?_⟩
  refine wpAny_letOwnedTupleGo_zip (s:={ s with heap:=g1 }) gz λg2 gz2 sb=>?_;have hT:H s.heap.objs.size=none:=I.hok.fresh (É _);have kall:∀ c o,c ∉ [z,TI,TO,i1,i2]->s.heap.get? c=some o->g2.get? c=some o:=λc o hc e=>by
   simp only[Ã4,Â1,or_false,not_or] at hc;exact sb.extBut _ _ hc.1 (kp c o hc.1 hc.2.2.1 hc.2.2.2.1 hc.2.2.2.2 e)
  have I2:Inv X pins σ H { s with heap:=g2 }:=I.F40 (t':=s.toks) hf kall;have fT:V60 X pins H s.heap.objs.size:=I.b81 (É _) hT;have gT2:g2.get? s.heap.objs.size=some { cls:=.type "tuple",data:=.seq #[u1,u2] }:=sb.extBut _ _ (λe=>À4 _ (by have:=Ü hz;rw[← e] at this;exact this)) gT
  have I3:Inv X pins σ (upd H s.heap.objs.size (.tup [x,y])) { s with heap:=g2 }:=I2.x61 fT I.sz (I2.hok.G81 hT (its:=[u1,u2]) (.cons ru1 (.cons ru2 .nil)) (by show 2<=sizeLine;rw[À8];decide) ⟨_,gT2,rfl,_,rfl⟩)
  have TI0:Ä9 g2 TI (.ref i1) (.ref i2):=sb.extBut _ _ D.TIz (kp _ _ D.TIz D.TITO D.TIi1 D.TIi2 hTI);obtain⟨o1,w1,_,r1⟩:=g1'.obj;obtain⟨o2,w2,_,r2⟩:=g2'.obj;refine⟨.ref s.heap.objs.size,_,I3,rfl,⟨_,rfl,hT,λxs' ys' x' y' e1 e2 e3 e4=>?_⟩,⟨gz2,TI0,⟨_,_,sb.extBut _ _ D.TOz gTO⟩,r1 _ (sb.extBut _ _ D.i1z w1),r2 _ (sb.extBut _ _ D.i2z w2)⟩,λc hc=>?_⟩
  ·rw[z1 _ e1] at e3;rw[z2 _ e2] at e4;rw[hx] at e3;rw[hy] at e4;cases e3;cases e4;rfl
  ·rw[a40]
   ·exact(hf c hc).1
   ·intro e;obtain⟨o1,h1,_⟩:=h1.obj;obtain⟨o2,h2,_⟩:=h2.obj;have lt:c < s.heap.objs.size:=by
     simp only[Ã4,Â1,or_false] at hc;rcases hc with rfl | rfl | rfl | rfl | rfl
     ·exact Ü hz
     ·exact Ü hTI
     ·exact Ü hTO
     ·exact Ü h1
     ·exact Ü h2
    rw[e] at lt;exact À4 _ lt
 done:=by
  intro X hP hw hK hc i pins s σ H E I hf st hg;subst hP hw hK;obtain⟨xs,ys,hq1,hq2,hend⟩:=hg;obtain⟨v1,rv1,p1,_⟩:=I.y01 hq1;obtain⟨v2,rv2,p2,_⟩:=I.y01 hq2;obtain⟨hz,hTI,⟨p,q,hTO⟩,h1,h2⟩:=st;have l1:=rv1.length;have l2:=rv2.length;refine y11 (I.ok.hd hc) D hz hTI hTO h1 h2 p1 p2 (hend.elim (λe=>.inl (by simp;omega)) λe=>.inr (by simp;omega)) λg kp=>⟨rfl,I.F40 (t':=s.toks) hf λc o hcn e=>?_⟩
  simp only[Ã4,Â1,or_false,not_or] at hcn;exact kp c o hcn.1 hcn.2.2.1 hcn.2.2.2.1 hcn.2.2.2.2 e
 self:=λ_ _ _ _ _ st h=>wpAny_pyIter_zip st.1 h
def C62(K:Â)(ta:TA):TI:=λσ H R=>ta σ H λvs H1=>∃ b a c,vs=[.ref a,.ref c]/\(∃ xs,SqB b K H1 a xs)/\(∃ ys,SqB b K H1 c ys)/\R (Itz b K a c) H1
theorem boot_zip:ì "zip"=some (.type "zip"):=by decide +kernel
theorem Z71{X:Cx}{a b:Î}{es:List Î}{ek:Nat}{ep:Pos}{ta:TA}{p pos:Pos}(hg:Gl X "zip")(hm:X.mg "zip"=none)(ha:PA X [a,b] ta)(hs:û [a,b] X.env=[(false,eval a X.env),(false,eval b X.env)]:=by rfl)(hs2:û [b] X.env=[(false,eval b X.env)]:=by rfl) :
  PI X (.Tuple es ek ep) (.Call (.Name "zip" p) [a,b] [] pos) (C62 X.K ta):=by
 intro pins s σ H R I h;refine Call_ (r40 I hg hm boot_zip (À0 (thn (ha pos pins s σ H _ I h) λus s1 ⟨vs,H1,I1,r1,q1⟩=>?_) (by rw[hs,hs2]) (by rw[hs2];rfl)))
 obtain⟨b,l1,l2,e,⟨xs,hq1⟩,⟨ys,hq2⟩,q⟩:=q1;subst e;obtain⟨u,w',rfl,r,r'⟩:=vals2 r1;cases r;cases r';obtain⟨v1,rv1,p1,a1,_⟩:=I1.y01 hq1;obtain⟨v2,rv2,p2,a2,_⟩:=I1.y01 hq2;refine j21 p1 p2 λh' hz hTI hTO h1 h2 kp=>wpAny_pyIter_zip (s:={ s1 with heap:=h' }) hz ?_;refine⟨_,[s1.heap.objs.size + 4,s1.heap.objs.size + 2,s1.heap.objs.size + 3,s1.heap.objs.size,s1.heap.objs.size + 1],_,_,H1,rfl,I1.kept (t':=s1.toks) kp,y21 (PyProof.Rows.zipApart_new a1 a2),⟨hz,hTI,⟨_,_,hTO⟩,h1,h2⟩,λc hc=>?_,q⟩;have hc':s1.heap.objs.size<=c:=by
  simp only[Ã4,Â1,or_false] at hc;rcases hc with rfl | rfl | rfl | rfl | rfl
  ·exact È2 _ 4
  ·exact È2 _ 2
  ·exact È2 _ 3
  ·exact É _
  ·exact È2 _ 1
 exact I1.b81 hc' (I1.hok.fresh hc')
theorem y31(hc:X.calm=true):f00 X (.builtin "all") (λxs H Q=>∃ (a:Æ) (bs:List Bool),xs=[.ref a]/\SqL X.K H a (bs.map V.bl)/\Q (.bl (bs.all id)) H):=by
 intro pins s σ H xs us Q I r h;obtain⟨a,bs,rfl,hq,q⟩:=h;obtain⟨u,rfl,rx⟩:=vals1 r;cases rx;obtain⟨its,rv,pl,hz⟩:=I.list hq;have hlt:a < s.heap.objs.size:=by obtain⟨_,e,_⟩:=pl.isList;exact Ü e
 have hlen:its.length=bs.length:=by have:=rv.length;simpa using this.symm
 refine call_all_walk (Ê4 pl.isList ⟨_,_,_,_,_,_,λi=>(bs[i]?).getD true,rfl,Ú8 (by exact I.ok.hd hc) s.heap.objs.size a (Û hlt) its.toArray,⟨⟨_,Ì _ rfl,rfl,rfl⟩,pl.isList.push _⟩,?_,?_⟩)
 ·intro i v s' Q' E' hP hQ;have hP':its[i]?=some v:=by simpa using hP
  have hi:i < bs.length:=by rw[← hlen];exact(ä.mp hP').1
  obtain⟨v',hv',rv'⟩:=rv.get (i:=i) (x:=.bl bs[i]) (by simp[hi])
  rw[hP'] at hv';cases hv';cases (show v=Å8 _ from rv');exact À9 (by simpa [hi] using hQ)
 ·intro h' tk kp;refine⟨.bl (bs.all id),H,I.kept λb o e=>kp b o (by simpa using Û (Ü e)) (Ã _ e),?_,q⟩
  show Å8 _=Å8 _;rw[Ó,hlen,PyProof.Rows.LSm.range_all]
end L2
namespace MySort
open PySem PySem.W PyProof.Rows
def run{α:Type}(cmp:Nat->Nat->Bool):KasT α->α
 |.ret a=>a|.ask i j k=>run cmp (k (cmp i j))
theorem run_bind(cmp:Nat->Nat->Bool)(f:α->KasT β):∀ t:KasT α,run cmp (t.bind f)=run cmp (f (run cmp t))
 |.ret _=>rfl|.ask i j k=>run_bind cmp f (k (cmp i j))
section
variable (O:KeyOrd) (key:Nat->O.α)
def kk(p:Array Nat)(i:Nat):O.α:=key (p.getD i 0)
abbrev j80:Nat->Nat->Bool:=λi j=>O.blt (key i) (key j)
def Up(p:Array Nat)(n:Nat):Prop:=∀ i j,i<=j->j < n->O.kle (kk O key p i) (kk O key p j)
def Dn(p:Array Nat)(n:Nat):Prop:=∀ i j,i<=j->j < n->O.kle (kk O key p j) (kk O key p i)
variable {O key}
theorem r70(h:p[i]?=q[j]?):kk O key p i=kk O key q j:=by
 unfold kk;rw[Ë8,Ë8,h]
theorem j31(hj:j<=p.size)(k:Nat):kk O key (Æ8 p i j) k=if i<=k/\k < j then kk O key p (i + j - 1 - k) else kk O key p k:=by
 have e:=getElem?_mirror_all (i:=i) hj k;unfold Æ8;by_cases h1:i<=k/\k < j
 ·rw[if_pos h1] at e ⊢;exact r70 e
 ·rw[if_neg h1] at e ⊢;exact r70 e
theorem Z81(hs:k < p.size)(hd:d<=k)(i:Nat) :
  kk O key (bubble p k d) i=if i=k - d then kk O key p k else if k - d < i/\i<=k then kk O key p (i - 1) else kk O key p i:=by
 have e:=getElem?_bubble hs d hd i;by_cases h1:i=k - d
 ·rw[if_pos h1] at e ⊢;exact r70 e
 ·rw[if_neg h1] at e ⊢;by_cases h2:k - d < i/\i<=k
  ·rw[if_pos h2] at e ⊢;exact r70 e
  ·rw[if_neg h2] at e ⊢;exact r70 e
theorem Up.more(h:Up O key p n)(h1:1<=n)(hl:O.kle (kk O key p (n - 1)) (kk O key p n)):Up O key p (n + 1):=by
 intro i j hij hj;by_cases e:j=n
 ·subst e;by_cases e2:i=j
  ·subst e2;exact Å9 _
  ·exact Ö0 (h i (j - 1) ∅ ∅) hl
 ·exact h i j hij ∅
theorem Dn.more(h:Dn O key p n)(h1:1<=n)(hl:O.kle (kk O key p n) (kk O key p (n - 1))):Dn O key p (n + 1):=by
 intro i j hij hj;by_cases e:j=n
 ·subst e;by_cases e2:i=j
  ·subst e2;exact Å9 _
  ·exact Ö0 hl (h i (j - 1) ∅ ∅)
 ·exact h i j hij ∅
theorem j41:∀ (f n:Nat),1<=n->Up O key p n ->
  n<=run (j80 O key) (Æ9 p f n)/\run (j80 O key) (Æ9 p f n)<=n + f/\Up O key p (run (j80 O key) (Æ9 p f n)) /\
   (run (j80 O key) (Æ9 p f n) < n + f->O.klt (kk O key p (run (j80 O key) (Æ9 p f n))) (kk O key p (run (j80 O key) (Æ9 p f n) - 1)))
 |0,n,h1,hu=>⟨É _,É _,hu,λh=>absurd h (À4 _)⟩
 |f + 1,n,h1,hu=>by
  show n<=run _ (if O.blt (kk O key p n) (kk O key p (n - 1))=true then Î9 n else Æ9 p f (n + 1))/\run _ (if O.blt (kk O key p n) (kk O key p (n - 1))=true then Î9 n else Æ9 p f (n + 1))<=n + (f + 1) /\
   Up O key p (run _ (if O.blt (kk O key p n) (kk O key p (n - 1))=true then Î9 n else Æ9 p f (n + 1))) /\
   (run _ (if O.blt (kk O key p n) (kk O key p (n - 1))=true then Î9 n else Æ9 p f (n + 1)) < n + (f + 1) ->
    O.klt (kk O key p (run _ (if O.blt (kk O key p n) (kk O key p (n - 1))=true then Î9 n else Æ9 p f (n + 1)))) (kk O key p (run _ (if O.blt (kk O key p n) (kk O key p (n - 1))=true then Î9 n else Æ9 p f (n + 1)) - 1)))
  cases hb:O.blt (kk O key p n) (kk O key p (n - 1)) with
  |true =>
   simp only[if_true];exact⟨É _,by show n<=n + (f + 1);omega,hu,λ_=>hb⟩
  |false =>
   simp only[È8,if_false];have ih:=j41 f (n + 1) ∅ (hu.more h1 hb)
   refine⟨by omega,by omega,ih.2.2.1,λh=>ih.2.2.2 ∅⟩
theorem rev_eq(hj:j<=p.size)(he:∀ k,i<=k->k < j->kk O key p k=kk O key p (j - 1))(k:Nat):kk O key (Æ8 p i j) k=kk O key p k:=by
 rw[j31 hj];split
 ·rw[he _ ∅ ∅,he k ∅ ∅]
 ·rfl
theorem F50(p:Array Nat)(i j:Nat):(Æ8 p i j).Perm p:=mirror_perm _ _ _ _
theorem F60(p:Array Nat)(i j:Nat):(Æ8 p i j).size=p.size:=mirror_size _ _ _ _
structure DnR(O:KeyOrd)(key:Nat->O.α)(p0 p:Array Nat)(n q:Nat):Prop where
 perm:p.Perm p0
 size:p.size=p0.size
 pos:q + 1<=n
 dn:Dn O key p n
 eq:∀ k,n - (q + 1)<=k->k < n->kk O key p k=kk O key p (n - 1)
theorem DnR.rev(h:DnR O key p0 p n q)(hn:n<=p0.size):DnR O key p0 (Æ8 p (n - (q + 1)) n) n q:=by
 have hz:=h.size;have e:=rev_eq (O:=O) (key:=key) (i:=n - (q + 1)) (j:=n) (p:=p) ∅ h.eq
 exact⟨(F50 _ _ _).trans h.perm,(F60 _ _ _).trans hz,h.pos,λi j hij hj=>by rw[e,e];exact h.dn i j hij hj,λk h1 h2=>by rw[e,e];exact h.eq k h1 h2⟩
theorem R30:∀ (f:Nat) (p:Array Nat) (n q:Nat),DnR O key p0 p n q->n + f<=p0.size ->
  n<=(run (j80 O key) (Á9 f p n q)).2.1/\(run (j80 O key) (Á9 f p n q)).2.1<=n + f /\
   DnR O key p0 (run (j80 O key) (Á9 f p n q)).1 (run (j80 O key) (Á9 f p n q)).2.1 (run (j80 O key) (Á9 f p n q)).2.2
 |0,p,n,q,h,_=>⟨É _,É _,h⟩
 |f + 1,p,n,q,h,hn=>by
  have hp:=h.pos;have hz:=h.size;have unf:run (j80 O key) (Á9 (f + 1) p n q)=run (j80 O key) (if O.blt (kk O key p n) (kk O key p (n - 1))=true then(if q > 0 then Á9 f (Æ8 p (n - (q + 1)) n) (n + 1) 0 else Á9 f p (n + 1) 0)
   else .ask (p.getD (n - 1) 0) (p.getD n 0) λd=>if d=true then .ret (p,n,q) else Á9 f p (n + 1) (q + 1)):=rfl
  rw[unf];cases hb:O.blt (kk O key p n) (kk O key p (n - 1)) with
  |true =>
   simp only[if_true];have go:∀ p',DnR O key p0 p' n q->(∀ k,kk O key p' k=kk O key p k)->n<=(run (j80 O key) (Á9 f p' (n + 1) 0)).2.1/\(run (j80 O key) (Á9 f p' (n + 1) 0)).2.1<=n + (f + 1) /\
     DnR O key p0 (run (j80 O key) (Á9 f p' (n + 1) 0)).1 (run (j80 O key) (Á9 f p' (n + 1) 0)).2.1 (run (j80 O key) (Á9 f p' (n + 1) 0)).2.2:=λp' h' e=>by
    have ih:=R30 f p' (n + 1) 0 ⟨h'.perm,h'.size,by omega,h'.dn.more ∅ (by rw[e,e];exact Í0 hb),λk h1 h2=>by
     have:k=n:=by omega
     subst this;rfl⟩ ∅
    exact⟨by omega,by omega,ih.2.2⟩
   split
   ·exact go _ (h.rev ∅) (rev_eq ∅ h.eq)
   ·exact go _ h λ_=>rfl
  |false =>
   simp only[È8,if_false];have unf2:run (j80 O key) (KasT.ask (p.getD (n - 1) 0) (p.getD n 0) λd=>if d=true then .ret (p,n,q) else Á9 f p (n + 1) (q + 1)) =
    run (j80 O key) (if O.blt (kk O key p (n - 1)) (kk O key p n)=true then .ret (p,n,q) else Á9 f p (n + 1) (q + 1)):=rfl
   rw[unf2];cases hc:O.blt (kk O key p (n - 1)) (kk O key p n) with
   |true =>
    simp only[if_true];exact⟨É _,by show n<=n + (f + 1);omega,h⟩
   |false =>
    simp only[È8,if_false];have e:kk O key p n=kk O key p (n - 1):=O.total _ _ hb hc;have ih:=R30 f p (n + 1) (q + 1) ⟨h.perm,h.size,by omega,h.dn.more ∅ (by rw[e];exact Å9 _),λk h1 h2=>by
     show _=kk O key p n;by_cases hk:k=n
     ·rw[hk]
     ·rw[e];exact h.eq k ∅ ∅⟩ ∅
    exact⟨by omega,by omega,ih.2.2⟩
structure o62(O:KeyOrd)(key:Nat->O.α)(p0:Array Nat)(nrem:Nat)(r:Nat × Array Nat):Prop where
 perm:r.2.Perm p0
 size:r.2.size=p0.size
 lo:1<=r.1
 hi:r.1<=nrem
 up:Up O key r.2 r.1
theorem W20(hp:p.Perm p0)(hz:p.size=p0.size)(hd:Dn O key p n)(h1:1<=n)(hn:n<=nrem)(hr:nrem<=p0.size):o62 O key p0 nrem (run (j80 O key) (kas_tail3 n nrem p)):=by
 unfold kas_tail3;rw[run_bind];have hu:Up O key (Æ8 p 0 n) n:=λi j hij hj=>by
  rw[j31 ∅,j31 ∅,if_pos ∅,if_pos ∅]
  exact hd _ _ ∅ ∅
 have a:=j41 (O:=O) (key:=key) (p:=Æ8 p 0 n) (nrem - n) n h1 hu;exact⟨(F50 _ _ _).trans hp,(F60 _ _ _).trans hz,by show 1<=run _ (Æ9 _ _ _);omega,by show run _ (Æ9 _ _ _)<=_;omega,a.2.2.1⟩
theorem z30(hp:p.Perm p0)(hz:p.size=p0.size)(hd:Dn O key p (n + 1))(hn:n + 1<=nrem)(hr:nrem<=p0.size):o62 O key p0 nrem (run (j80 O key) (Í6 n nrem p)):=by
 unfold Í6;rw[run_bind];have d:=R30 (O:=O) (key:=key) (p0:=p0) (nrem - (n + 1)) p (n + 1) 0 ⟨hp,hz,by omega,hd,λk h1 h2=>by
  have:k=n:=by omega
  subst this;rfl⟩ ∅
 obtain⟨d1,d2,d3⟩:=d;have hpos:=d3.pos;split
 ·have d4:=d3.rev ∅
  exact W20 d4.perm d4.size d4.dn ∅ ∅ hr
 ·exact W20 d3.perm d3.size d3.dn ∅ ∅ hr
theorem y41(h1:1<=nrem)(hr:nrem<=p.size):o62 O key p nrem (run (j80 O key) (Ü7 nrem p)):=by
 unfold Ü7;rw[run_bind];have a:=j41 (O:=O) (key:=key) (p:=p) (nrem - 1) 1 (É _) (λi j hij hj=>by
  have:i=j:=by omega
  subst this;exact Å9 _)
 generalize run (j80 O key) (Æ9 p (nrem - 1) 1)=n at a ⊢;obtain⟨a1,a2,a3,a4⟩:=a;split
 ·exact⟨Ê1 _,rfl,a1,by show n<=nrem;omega,a3⟩
 ·rename_i hne;have hlt:n < nrem:=by
   have:n≠nrem:=by simpa using hne
   omega
  have hl:=a4 ∅
  split
  ·rename_i h2;have unf:run (j80 O key) (KasT.ask (p.getD 0 0) (p.getD (n - 1) 0) λc=>if c=true then .ret (n,p) else Í6 n nrem (Æ8 p 0 n)) =
    run (j80 O key) (if O.blt (kk O key p 0) (kk O key p (n - 1))=true then .ret (n,p) else Í6 n nrem (Æ8 p 0 n)):=rfl
   rw[unf];cases hb:O.blt (kk O key p 0) (kk O key p (n - 1)) with
   |true =>
    simp only[if_true];exact⟨Ê1 _,rfl,a1,by show n<=nrem;omega,a3⟩
   |false =>
    simp only[È8,if_false];have e0:kk O key p 0=kk O key p (n - 1):=O.total _ _ hb (a3 0 (n - 1) ∅ ∅)
    have e:∀ k,0<=k->k < n->kk O key p k=kk O key p (n - 1):=λk _ hk=>by
     refine KeyOrd.kle_antisymm (a3 k (n - 1) ∅ ∅) ?_
     rw[← e0];exact a3 0 k ∅ hk
    have er:=rev_eq (O:=O) (key:=key) (i:=0) (j:=n) (p:=p) ∅ e
    refine z30 (F50 _ _ _) (F60 _ _ _) ?_ ∅ hr
    have dn:Dn O key (Æ8 p 0 n) n:=λi j hij hj=>by
     rw[er,er,e i ∅ ∅,e j ∅ ∅];exact Å9 _
    refine dn.more a1 ?_;rw[er,er];exact Í0 hl
  ·have h2:n=1:=by omega
   subst h2;refine z30 (Ê1 _) rfl ?_ ∅ hr
   have dn:Dn O key p 1:=λi j hij hj=>by
    have:i=j:=by omega
    subst this;exact Å9 _
   exact dn.more (É _) (Í0 hl)
theorem F70(hu:Up O key p k):∀ (f l r:Nat),l<=r->r<=k->r - l<=f->(∀ i,i < l->O.kle (kk O key p i) (kk O key p k))->(∀ i,r<=i->i < k->O.klt (kk O key p k) (kk O key p i)) ->
  run (j80 O key) (Â9 p k f l r)<=k/\(∀ i,i < run (j80 O key) (Â9 p k f l r)->O.kle (kk O key p i) (kk O key p k))/\(∀ i,run (j80 O key) (Â9 p k f l r)<=i->i < k->O.klt (kk O key p k) (kk O key p i))
 |0,l,r,h1,h2,h3,h4,h5=>by
  have:l=r:=by omega
  subst this;exact⟨h2,h4,h5⟩
 |f + 1,l,r,h1,h2,h3,h4,h5=>by
  have unf:Â9 p k (f + 1) l r=(if l ≥ r then .ret l else .ask (p.getD k 0) (p.getD ((l + r) / 2) 0) λc=>if c=true then Â9 p k f l ((l + r) / 2) else Â9 p k f ((l + r) / 2 + 1) r):=rfl;rw[unf];by_cases hlr:l ≥ r
  ·rw[if_pos hlr];have:l=r:=by omega
   subst this;exact⟨h2,h4,h5⟩
  ·rw[if_neg hlr];have unf2:run (j80 O key) (KasT.ask (p.getD k 0) (p.getD ((l + r) / 2) 0) λc=>if c=true then Â9 p k f l ((l + r) / 2) else Â9 p k f ((l + r) / 2 + 1) r) =
    run (j80 O key) (if O.blt (kk O key p k) (kk O key p ((l + r) / 2))=true then Â9 p k f l ((l + r) / 2) else Â9 p k f ((l + r) / 2 + 1) r):=rfl
   rw[unf2];cases hb:O.blt (kk O key p k) (kk O key p ((l + r) / 2)) with
   |true =>
    simp only[if_true];exact F70 hu f l ((l + r) / 2) ∅ ∅ ∅ h4 λi hi hk=>KeyOrd.klt_of_klt_of_kle hb (hu _ i hi hk)
   |false =>
    simp only[È8,if_false];exact F70 hu f ((l + r) / 2 + 1) r ∅ ∅ ∅ (λi hi=>Ö0 (hu i ((l + r) / 2) ∅ ∅) hb) h5
theorem G91:∀ (f:Nat) (p:Array Nat) (k:Nat),p.Perm p0->p.size=p0.size->Up O key p k->k + f<=p0.size ->
  (run (j80 O key) (kas_bin f p k)).Perm p0/\Up O key (run (j80 O key) (kas_bin f p k)) (k + f)
 |0,p,k,hp,_,hu,_=>⟨hp,hu⟩
 |f + 1,p,k,hp,hz,hu,hk=>by
  have unf:kas_bin (f + 1) p k=(Â9 p k k 0 k).bind λl=>kas_bin f (bubble p k (k - l)) (k + 1):=rfl;rw[unf,run_bind];have pl:=F70 (O:=O) (key:=key) hu k 0 k ∅ ∅ ∅ (λi hi=>absurd hi (Ò6 _)) (λi h1 h2=>absurd h2 ∅)
  generalize run (j80 O key) (Â9 p k k 0 k)=l at pl ⊢;obtain⟨l1,l2,l3⟩:=pl;have hb:=Z81 (O:=O) (key:=key) (p:=p) (k:=k) (d:=k - l) ∅ ∅
  have hu':Up O key (bubble p k (k - l)) (k + 1):=λi j hij hj=>by
   rw[hb,hb];have el:k - (k - l)=l:=by omega
   rw[el];by_cases ei:i=l
   ·rw[if_pos ei];by_cases ej:j=l
    ·rw[if_pos ej];exact Å9 _
    ·rw[if_neg ej,if_pos ∅]
     exact Í0 (l3 _ ∅ ∅)
   ·rw[if_neg ei];by_cases hi:l < i/\i<=k
    ·rw[if_pos hi,if_neg ∅,if_pos ∅]
     exact hu _ _ ∅ ∅
    ·rw[if_neg hi];by_cases ej:j=l
     ·rw[if_pos ej];exact l2 _ ∅
     ·rw[if_neg ej];by_cases hj':l < j/\j<=k
      ·rw[if_pos hj'];exact hu _ _ ∅ ∅
      ·rw[if_neg hj'];exact hu _ _ hij ∅
  have ih:=G91 (p0:=p0) f (bubble p k (k - l)) (k + 1) ((bubble_perm _ _ _).trans hp) ((bubble_size _ _ _).trans hz) hu' ∅
  exact⟨ih.1,by have:=ih.2;rwa [show k + 1 + f=k + (f + 1) by omega] at this⟩
theorem L81(h1:1<=n):(run (j80 O key) (Î3 n)).Perm (í n).toArray/\Up O key (run (j80 O key) (Î3 n)) n:=by
 unfold Î3;rw[run_bind];have c:=y41 (O:=O) (key:=key) (p:=(í n).toArray) h1 (by simp)
 generalize run (j80 O key) (Ü7 n (í n).toArray)=r at c ⊢;obtain⟨c1,c2,c3,c4,c5⟩:=c;split
 ·have b:=G91 (O:=O) (key:=key) (n - max r.1 1) r.2 (max r.1 1) c1 c2 (by rw[Nat.max_eq_left c3];exact c5) (by simp;omega)
  exact⟨b.1,by have:=b.2;rwa [show max r.1 1 + (n - max r.1 1)=n by omega] at this⟩
 ·have:r.1=n:=by omega
  rw[this] at c5;exact⟨c1,c5⟩
end
def m00{α:Type}(n:Nat):KasT α->Prop
 |.ret _=>True|.ask i j k=>(i < n/\j < n)/\∀ b,m00 n (k b)
def M10{α:Type}(G:α->Prop):KasT α->Prop
 |.ret a=>G a|.ask _ _ k=>∀ b,M10 G (k b)
theorem m00.bind{α β:Type}{n:Nat}{f:α->KasT β}{G:α->Prop}(hf:∀ a,G a->m00 n (f a)):∀ {t:KasT α},m00 n t->M10 G t->m00 n (t.bind f)
 |.ret a,_,g=>hf a g|.ask _ _ _,h,g=>⟨h.1,λb=>m00.bind hf (h.2 b) (g b)⟩
theorem M10.bind{α β:Type}{f:α->KasT β}{G:α->Prop}{G':β->Prop}(hf:∀ a,G a->M10 G' (f a)):∀ {t:KasT α},M10 G t->M10 G' (t.bind f)
 |.ret a,g=>hf a g|.ask _ _ _,g=>λb=>M10.bind hf (g b)
def Low(n:Nat)(p:Array Nat):Prop:=∀ i,p.getD i 0 < n
theorem j51(h1:1<=n)(hp:p.Perm q)(hq:∀ x∈q.toList,x < n):Low n p:=λi=>by
 by_cases hi:i < p.size
 ·have e:p.getD i 0=p[i]:=by simp[getD,hi]
  rw[e];exact hq _ (hp.toList.mem_iff.mp (by simp))
 ·have e:p.getD i 0=0:=by simp[getD,hi]
  rw[e];exact h1
structure Good(n:Nat)(q p:Array Nat):Prop where
 low:Low n p
 perm:p.Perm q
theorem Good.rev(h1:1<=n)(hq:∀ x∈q.toList,x < n)(g:Good n q p)(i j:Nat):Good n q (Æ8 p i j) :=
 have e:=(mirror_perm p i j ((j - i) / 2)).trans g.perm
 ⟨j51 h1 e hq,e⟩
theorem Good.bub(h1:1<=n)(hq:∀ x∈q.toList,x < n)(g:Good n q p)(i j:Nat):Good n q (bubble p i j) :=
 have e:=(bubble_perm p i j).trans g.perm
 ⟨j51 h1 e hq,e⟩
section
variable {n:Nat}{q:Array Nat}
theorem F80(g:Low n p):∀ (f k:Nat),m00 n (Æ9 p f k)
 |0,_=>trivial|f + 1,k=>⟨⟨g _,g _⟩,λb=>by cases b with | true=>exact trivial | false=>exact F80 g f (k + 1)⟩
theorem r80:∀ (f k:Nat),M10 (λ_=>True) (Æ9 p f k)
 |0,_=>trivial|f + 1,k=>λb=>by cases b with | true=>exact trivial | false=>exact r80 f (k + 1)
theorem z40(h1:1<=n)(hq:∀ x∈q.toList,x < n):∀ (f:Nat) (p:Array Nat) (k c:Nat),Good n q p->m00 n (Á9 f p k c)/\M10 (λr=>Good n q r.1) (Á9 f p k c)
 |0,p,k,c,g=>⟨trivial,g⟩
 |f + 1,p,k,c,g=>by
  have a:=λp' k' c' g'=>(z40 h1 hq f p' k' c' g').1;have r:=λp' k' c' g'=>(z40 h1 hq f p' k' c' g').2;refine⟨⟨⟨g.low _,g.low _⟩,λb=>?_⟩,λb=>?_⟩
  ·cases b with
   |true =>
    show m00 n (if c > 0 then Á9 f (Æ8 p (k - (c + 1)) k) (k + 1) 0 else Á9 f p (k + 1) 0);split
    ·exact a _ _ _ (g.rev h1 hq _ _)
    ·exact a _ _ _ g
   |false=>exact⟨⟨g.low _,g.low _⟩,λd=>by cases d with | true=>exact trivial | false=>exact a _ _ _ g⟩
  ·cases b with
   |true =>
    show M10 _ (if c > 0 then Á9 f (Æ8 p (k - (c + 1)) k) (k + 1) 0 else Á9 f p (k + 1) 0);split
    ·exact r _ _ _ (g.rev h1 hq _ _)
    ·exact r _ _ _ g
   |false=>exact λd=>by cases d with | true=>exact g | false=>exact r _ _ _ g
theorem n70(h1:1<=n)(hq:∀ x∈q.toList,x < n)(g:Good n q p)(k m:Nat):m00 n (kas_tail3 k m p)/\M10 (λr=>Good n q r.2) (kas_tail3 k m p) :=
 have g':=g.rev h1 hq 0 k
 And.intro (m00.bind (f:=λm'=>Î9 (m',Æ8 p 0 k)) (λ_ _=>È9) (F80 g'.low (m - k) k) (r80 (m - k) k)) (M10.bind (f:=λm'=>Î9 (m',Æ8 p 0 k)) (G':=λr=>Good n q r.2) (λ_ _=>g') (r80 (m - k) k))
theorem g50(h1:1<=n)(hq:∀ x∈q.toList,x < n)(g:Good n q p)(k m:Nat):m00 n (Í6 k m p)/\M10 (λr=>Good n q r.2) (Í6 k m p):=by
 have d:=z40 h1 hq (m - (k + 1)) p (k + 1) 0 g;refine⟨m00.bind (λr gr=>?_) d.1 d.2,M10.bind (λr gr=>?_) d.2⟩
 ·split
  ·exact(n70 h1 hq (gr.rev h1 hq _ _) _ _).1
  ·exact(n70 h1 hq gr _ _).1
 ·split
  ·exact(n70 h1 hq (gr.rev h1 hq _ _) _ _).2
  ·exact(n70 h1 hq gr _ _).2
theorem c71(h1:1<=n)(hq:∀ x∈q.toList,x < n)(g:Good n q p)(m:Nat):m00 n (Ü7 m p)/\M10 (λr=>Good n q r.2) (Ü7 m p):=by
 refine⟨m00.bind (λk _=>?_) (F80 g.low _ _) (r80 _ _),M10.bind (λk _=>?_) (r80 _ _)⟩
 ·split
  ·exact trivial
  ·split
   ·exact⟨⟨g.low _,g.low _⟩,λb=>by cases b with | true=>exact trivial | false=>exact(g50 h1 hq (g.rev h1 hq _ _) _ _).1⟩
   ·exact(g50 h1 hq g _ _).1
 ·split
  ·exact g
  ·split
   ·exact λb=>by cases b with | true=>exact g | false=>exact(g50 h1 hq (g.rev h1 hq _ _) _ _).2
   ·exact(g50 h1 hq g _ _).2
theorem g90(g:Low n p)(k:Nat):∀ (f l r:Nat),m00 n (Â9 p k f l r)/\M10 (λ_=>True) (Â9 p k f l r)
 |0,_,_=>⟨trivial,trivial⟩
 |f + 1,l,r=>by
  have e:Â9 p k (f + 1) l r=(if l ≥ r then .ret l else .ask (p.getD k 0) (p.getD ((l + r) / 2) 0) λc=>if c=true then Â9 p k f l ((l + r) / 2) else Â9 p k f ((l + r) / 2 + 1) r):=rfl;rw[e];split
  ·exact⟨trivial,trivial⟩
  ·refine⟨⟨⟨g _,g _⟩,λb=>?_⟩,λb=>?_⟩
   ·cases b with
    |true=>exact(g90 g k f _ _).1|false=>exact(g90 g k f _ _).1
   ·cases b with
    |true=>exact(g90 g k f _ _).2|false=>exact(g90 g k f _ _).2
theorem W30(h1:1<=n)(hq:∀ x∈q.toList,x < n):∀ (f:Nat) (p:Array Nat) (k:Nat),Good n q p->m00 n (kas_bin f p k)
 |0,_,_,_=>trivial|f + 1,p,k,g=>m00.bind (λl _=>W30 h1 hq f _ _ (g.bub h1 hq _ _)) (g90 g.low k k 0 k).1 (g90 g.low k k 0 k).2
theorem j61(h1:1<=n):m00 n (Î3 n):=by
 have hq:∀ x∈((í n).toArray).toList,x < n:=λx hx=>by simpa using hx
 have g:Good n (í n).toArray (í n).toArray:=⟨j51 h1 (Ê1 _) hq,Ê1 _⟩;have c:=c71 h1 hq g n;refine m00.bind (λr gr=>?_) c.1 c.2;split
 ·exact W30 h1 hq _ _ _ gr
 ·exact trivial
end
theorem M20{α:Type}{n:Nat}{cmp:Nat->Nat->Bool}{ask:Nat->Nat->(Bool->Å->Prop)->Å->Prop}{s:Å}(h:∀ i j (C:Bool->Å->Prop),i < n->j < n->C (cmp i j) s->ask i j C s){Q:α->Å->Prop} :
  ∀ (t:KasT α),m00 n t->Q (run cmp t) s->t.kasWp ask Q s
 |.ret _,_,q=>q|.ask i j k,a,q=>h i j _ a.1.1 a.1.2 (M20 h (k (cmp i j)) (a.2 _) q)
def i30:List Int->List Int->Bool
 |[],[]=>false|[],_::_=>true|_::_,[]=>false|x::r,y::q=>if x=y then i30 r q else decide (x < y)
theorem p80:∀ a,i30 a a=false
 |[]=>rfl|x::r=>by show(if x=x then i30 r r else _)=_;rw[if_pos rfl];exact p80 r
theorem n80:∀ a b c,i30 a b=true->i30 b c=true->i30 a c=true
 |[],[],_,h,_=>by cases h
 |[],_::_,[],_,h=>by cases h
 |[],_::_,_::_,_,_=>rfl|_::_,[],_,h,_=>by cases h
 |_::_,_::_,[],_,h=>by cases h
 |x::a,y::b,z::c,h1,h2=>by
  have h1:(if x=y then i30 a b else decide (x < y))=true:=h1;have h2:(if y=z then i30 b c else decide (y < z))=true:=h2;show(if x=z then i30 a c else decide (x < z))=true;by_cases e1:x=y
  ·rw[if_pos e1] at h1;by_cases e2:y=z
   ·rw[if_pos e2] at h2;rw[if_pos (e1.trans e2)];exact n80 a b c h1 h2
   ·rw[if_neg e2] at h2;rw[if_neg ∅]
    rw[e1];exact h2
  ·rw[if_neg e1] at h1;have l1:x < y:=by simpa using h1
   by_cases e2:y=z
   ·rw[if_neg ∅];exact decide_eq_true ∅
   ·rw[if_neg e2] at h2;have l2:y < z:=by simpa using h2
    rw[if_neg ∅];exact decide_eq_true ∅
theorem n90:∀ a b,i30 a b=false->i30 b a=false->a=b
 |[],[],_,_=>rfl|[],_::_,h,_=>by cases h
 |_::_,[],_,h=>by cases h
 |x::a,y::b,h1,h2=>by
  have h1:(if x=y then i30 a b else decide (x < y))=false:=h1;have h2:(if y=x then i30 b a else decide (y < x))=false:=h2;by_cases e:x=y
  ·subst e;rw[if_pos rfl] at h1 h2;rw[n90 a b h1 h2]
  ·rw[if_neg e] at h1;rw[if_neg (À1 e)] at h2;have l1:¬ x < y:=by simpa using h1
   have l2:¬ y < x:=by simpa using h2
   omega
theorem W40(a b c:List Int)(h:i30 a c=true):i30 a b=true∨i30 b c=true:=by
 cases hab:i30 a b with
 |true=>exact .inl rfl
 |false =>
  right;cases hba:i30 b a with
  |true=>exact n80 b a c hba h|false=>rw[← n90 a b hab hba];exact h
def L91:KeyOrd:=⟨List Int,i30,p80,n80,W40,n90⟩
section
variable {P:â}{w:õ}{A:ü}{E:Ä->Å->Prop}{s:Å}
def sortedBy(ks:List (List Int))(p:List Nat):Prop:=p.Perm (í ks.length)/\(p.map λi=>ks.getD i []).Pairwise λx y=>i30 y x=false
theorem range_getD(d:α):∀ (l:List α),(í l.length).map (λi=>l.getD i d)=l:=λl=>by
 refine List.ext_getElem (by simp) λi h1 h2=>?_
 simp at h1;simp[h1]
def o72(P:â)(w:õ)(A:ü)(s:Å)(vs:List Ä)(Pr:List Nat->Prop)(kd:Ì1):Prop:=∃ p:List Nat,Pr p/\∀ (E:Ä->Å->Prop) (Q:Unit × Á6->Å->Prop),(∀ st',failedOf st'=none->arrOf st'=(p.toArray).map (ó (vs.toArray.zip vs.toArray))->Q ((),st') s)->Ñ (Ø P w) A (sortRuns'.run (É9 kd (vs.toArray.zip vs.toArray) #[] 7 none)) Q E s
structure Z91(P:Program)(w:World)(A:Around)(s:Shared)(vs:List Value)(Pr:List Nat->Prop)(kd:SortKind):Prop where
 len:vs.length<=1000
 few:vs.length < 2->Pr (range vs.length)
 all:∀ p,Pr p->p.length=vs.length
 kind:2<=vs.length->∀ (E:Value->Shared->Prop) (Q:SortKind->Shared->Prop),Q kd s->wpAny (model P w) A (keyKind' vs.toArray) Q E s
 run:2<=vs.length->o72 P w A s vs Pr kd
theorem a02(hl:n=ks.length)(h2:n < 2):sortedBy ks (í n):=by
 subst hl;refine⟨.refl _,?_⟩;rw[range_getD]
 match ks,h2 with
 |[],_=>exact .nil|[_],_=>simp|_::_::_,q=>simp at q;omega
theorem M01{vs:List Ä}{ks:List (List Int)}{kd:Ì1}(hlen:vs.length=ks.length)(h64:vs.length < 64)(ask:∀ i j,i < vs.length->j < vs.length->∀ (E:Ä->Å->Prop) (C:Bool->Å->Prop),C (i30 (ks.getD i []) (ks.getD j [])) s->Ñ (Ø P w) A (keyLt' kd (vs.getD i á) (vs.getD j á)) C E s)(h2':2<=vs.length):o72 P w A s vs (sortedBy ks) kd:=by
 have so:=L81 (O:=L91) (key:=λi=>ks.getD i []) (n:=vs.length) ∅
 refine⟨(run (j80 L91 λi=>ks.getD i []) (Î3 vs.length)).toList,?_,λE Q q=>?_⟩
 ·generalize run (j80 L91 λi=>ks.getD i []) (Î3 vs.length)=p at so;refine⟨?_,?_⟩
  ·have:=so.1.toList;rw[hlen] at this;simpa using this
  ·rw[List.pairwise_iff_getElem];intro i j hi hj hij;have hsz:p.size=vs.length:=by have:=so.1.size_eq;simpa using this
   have hi':i < p.size:=by simpa using hi
   have hj':j < p.size:=by simpa using hj
   have u:=so.2 i j (Ì2 hij) ∅
   have g:∀ k,k < p.size->kk L91 (λi=>ks.getD i []) p k=ks.getD (p.toList.getD k 0) []:=λk hk=>by show ks.getD (p.getD k 0) []=_;rw[Ë8,Ù (l:=p.toList),ý]
   have u':i30 (ks.getD (p.toList.getD j 0) []) (ks.getD (p.toList.getD i 0) [])=false:=by
    have:=u;unfold KeyOrd.kle at this;rw[g i hi',g j hj'] at this;exact this
   simpa [hi',hj'] using u'
 ·refine Ä6 (kat_run (s:=s) (Q:=λst' s'=>s'=s/\failedOf st'=none/\arrOf st'=(run (j80 L91 λi=>ks.getD i []) (Î3 vs.length)).map (ó (vs.toArray.zip vs.toArray)))
   (G:=λp s'=>s'=s/\p=run (j80 L91 λi=>ks.getD i []) (Î3 vs.length)) rfl h2' h64 (λp st' s' a1 a2 a3 a4=>⟨a4.1,a3,by rw[a2,a4.2]⟩)
   (M20 (n:=vs.length) (cmp:=j80 L91 λi=>ks.getD i []) (λi j C hi hj hC=>ask i j hi hj _ C hC) (Î3 vs.length) (j61 ∅) ⟨rfl,rfl⟩)) ?_ λ_ _ e=>e
  rintro ⟨⟨⟩,st'⟩ s' ⟨hs',hf,har⟩;subst hs';exact q st' hf har
def j71(h h':ï):Prop:=∀ b o,h.get? b=some o->o.cls=.type "tuple"->h'.get? b=some o
theorem y51{a:Æ}{vs:List Ä}{Pr:List Nat->Prop}{kd:Ì1}{n:Nat}{R:PySem.Fin->Å->Prop}(ho:s.heap.get? a=some (Â5 "list" vs.toArray n))(hk:∀ h',j71 s.heap h'->Z91 P w A { s with heap:=h' } vs Pr kd)
  (h:∀ (p:List Nat) (h':ï) (c:Nat),Pr p->(∀ b o,b≠a->s.heap.get? b=some o->h'.get? b=some o)->h'.get? a=some (Â5 "list" (p.map λi=>vs.getD i á).toArray c)->R (.done (.ret .none)) { s with heap:=h' }) :
  Ñ (Ø P w) A (Â0.«list.sort» ⟨[.ref a],[]⟩) R E s:=by
 have ha:a < s.heap.objs.size:=Ü ho;have h64:=(hk s.heap λ_ _ e _=>e).len;have s1:=Æ4 s.heap a (Á2 λ_=>(#[]:Array Ä));obtain⟨e1,ho1⟩:∃ e1,(s.heap.update a (Á2 λ_=>(#[]:Array Ä))).get? a=some (Â5 "list" #[] e1):=⟨_,Ý8 ho λ_=>#[]⟩;have kp:∀ b o,b≠a->s.heap.get? b=some o->(((s.heap.update a (Á2 λ_=>(#[]:Array Ä))).push (Â5 "tuple" vs.toArray 0)).push (Â5 "list" #[] 0)).get? b=some o:=λb o hb e=>Ã _ (Ã _ ((s1.2 b hb).trans e));have ho6:(((s.heap.update a (Á2 λ_=>(#[]:Array Ä))).push (Â5 "tuple" vs.toArray 0)).push (Â5 "list" #[] 0)).get? a=some (Â5 "list" #[] e1):=Ã _ (Ã _ ho1);have hk6:=hk (((s.heap.update a (Á2 λ_=>(#[]:Array Ä))).push (Â5 "tuple" vs.toArray 0)).push (Â5 "list" #[] 0)) (λb o e hc=>kp b o (λq=>by subst q;rw[ho] at e;cases e;have hc':Á0 "list"=Á0 "tuple":=hc;injection hc' with hc';exact absurd hc' (-0)) e)
 rw[list_sort_plain];refine À (Í5 ho rfl (À (Ø2 ho rfl ?_ (by rw[Ó,À8];omega) (Å2 _))))
 refine À (seqEpoch_at ho1 rfl (À (wpAny_newTuple ?_ (by show vs.length<=_;rw[À8];omega))));refine À (wpAny_newList (Ã1 ?_) (Å2 _))
 show Ñ (Ø P w) A _ R E { s with heap:=((s.heap.update a (Á2 λ_=>(#[]:Array Ä))).push (Â5 "tuple" vs.toArray 0)).push (Â5 "list" #[] 0) };generalize hH:((s.heap.update a (Á2 λ_=>(#[]:Array Ä))).push (Â5 "tuple" vs.toArray 0)).push (Â5 "list" #[] 0)=h6 at kp ho6 hk6 ⊢;have fin:∀ (p:List Nat) (out:Array Ä),out=(p.map λi=>vs.getD i á).toArray->Pr p->Ñ (Ø P w) A (do
   let touched:=(← seqEpoch a) != e1
   Â0.List.listUpdate (.ref a) λ_=>out
   if touched then rule "list.sort.modified";raiseError "ValueError" "list modified during sort"
   ret .none) R E { s with heap:=h6 }:=λp out eo hp=>by
  subst eo;have hsz:(p.map λi=>vs.getD i á).toArray.size=vs.length:=by rw[Ó,È,(hk s.heap λ_ _ e _=>e).all p hp]
  have s2:=Æ4 h6 a (Á2 λ_=>(p.map λi=>vs.getD i á).toArray);refine À (seqEpoch_at ho6 rfl (À (Ø2 ho6 rfl ?_ (Å2 _) (Ô (Ö4 hsz) (by rw[À8];omega)))))
  simp only[bne_self_eq_false,È8,if_false];exact Ç (h p _ _ hp (λb o hb e=>(s2.2 b hb).trans (kp b o hb e)) (Ý8 ho6 λ_=>(p.map λi=>vs.getD i á).toArray))
 dsimp only;by_cases h2:vs.toArray.size < 2
 ·rw[if_pos h2,if_pos h2];refine À (Ç ?_);rw[StateT.run_pure];refine À (Ç ?_);dsimp only;refine fin (í vs.length) _ ?_ ((hk s.heap λ_ _ e _=>e).few (by simpa using h2))
  rw[range_getD];apply Array.toList_inj.mp;rw[Array.toList_map];show List.map _ (vs.toArray.zip vs.toArray).toList=vs;rw[ksk_zip];exact List.map_snd_zip (É _)
 ·rw[if_neg h2,if_neg h2];have h2':2<=vs.length:=by simpa using h2
  refine À (hk6.kind h2' _ _ ?_);obtain⟨p,hp,hr⟩:=hk6.run h2';refine À (hr _ _ λst' hf har=>?_);dsimp only;rw[hf];exact fin p _ (kat_snds rfl har) hp
end
end MySort
namespace TS
open PySem PySem.W PyProof.Rows
structure Tw where
 a:Array Nat
 pending:Array (Nat × Nat × Nat)
 minGallop:Nat
abbrev TM:=StateT Tw Option
section
variable (n:Nat) (cmp:Nat->Nat->Bool)
def ltT(x y:Nat):TM Bool:=if x < n/\y < n then pure (cmp x y) else λ_=>none
def j81(arr:Array Nat)(i:Nat):TM Nat:=match arr.toList[i]? with
 |some p=>pure p|none=>λ_=>none
def M11(i j:Nat):TM Bool:=do
 let a:=(← get).a
 ltT n cmp (← j81 a i) (← j81 a j)
def x92(i j:Nat):TM Unit:=modify λs=>{ s with a:=mirror s.a i j ((j - i) / 2) }
def mvL(a:Array Nat)(src dst:Nat):Array Nat:=⟨a.toList.take dst++((a.toList.drop src).take 1++((a.toList.take src).drop dst++a.toList.drop (src + 1)))⟩
theorem a12(h:src < a.size)(h2:dst<=src):mvL a src dst=bubble a src (src - dst):=by
 apply Array.ext_getElem?;intro k;rw[getElem?_bubble h (src - dst) ∅ k,show src - (src - dst)=dst by omega]
 have hl:src < a.toList.length:=h;rw[← ý,← ý,← ý,← ý];show(a.toList.take dst++((a.toList.drop src).take 1++((a.toList.take src).drop dst++a.toList.drop (src + 1))))[k]?=_;generalize a.toList=l at hl;rw[Ê9,Ê9,Ê9,Ã7,Ã7,Ë2,Ë2,Ã7,show min dst l.length=dst by omega,show min 1 (l.length - src)=1 by omega,show min src l.length - dst=src - dst by omega,Ô4,Ô4,Ô5,Ô5,Ô5,Ô4]
 by_cases c1:k < dst
 ·rw[if_pos c1,if_pos c1,if_neg ∅,if_neg ∅]
 ·rw[if_neg c1];by_cases c2:k=dst
  ·rw[if_pos ∅,if_pos ∅,if_pos c2,show src + (k - dst)=src by omega]
  ·rw[if_neg ∅,if_neg c2]
   by_cases c3:k<=src
   ·rw[if_pos ∅,if_pos ∅,if_pos ∅,show dst + (k - dst - 1)=k - 1 by omega]
   ·rw[if_neg ∅,if_neg ∅,show src + 1 + (k - dst - 1 - (src - dst))=k by omega]
def M21(src dst:Nat):TM Unit:=λt=>if src < t.a.size/\dst<=src then some ((),{ t with a:=mvL t.a src dst }) else none
end
section
variable {prog:â}{w:õ}{A:ü}{E:Ä->Å->Prop}{s:Å}{κ:Ì1}{it:Array Keyed}{n:Nat}{cmp:Nat->Nat->Bool}
def co(κ:Ì1)(it:Array Keyed)(t:Tw):SortSt:=É9 κ (t.a.map (ó it)) t.pending t.minGallop none
def Sim(prog:â)(w:õ)(A:ü)(E:Ä->Å->Prop)(s:Å)(κ:Ì1)(it:Array Keyed){α β:Type}(rel:β->α)(m:StateT Á6 Sem α)(f:TM β):Prop :=
 ∀ (t:Tw) (b:β) (t':Tw),f t=some (b,t')->∀ Q:α->Á6->Å->Prop,Q (rel b) (co κ it t') s->kasC (Ø prog w) A E m Q (co κ it t) s
local macro_rules | `(tactic| trivial)=>`(tactic| skip)
section
variable {α β α' β':Type}{r:β->α}{r':β'->α'}
theorem x50(b:β)(e:a=r b):Sim prog w A E s κ it r (pure a) (pure b):=λt b' t' h Q q=>by
 cases h;subst e;exact kasC_pure q
theorem k80(h:Sim prog w A E s κ it r m f)(hk:∀ b,Sim prog w A E s κ it r' (k (r b)) (g b)):Sim prog w A E s κ it r' (m >>= k) (f >>= g):=λt b t' e Q q=>by
 have e:(f t).bind (λx=>g x.1 x.2)=some (b,t'):=e;obtain⟨⟨b1,t1⟩,e1,e2⟩:=Ï.mp e;exact kasC_bind (h t b1 t1 e1 _ (hk b1 t1 b t' e2 Q q))
theorem R40:Sim prog w A E s κ it (co κ it) (get:StateT Á6 Sem Á6) (get:TM Tw):=λt b t' e Q q=>by
 cases e;exact kasC_get q
theorem o00(h:∀ t,F (co κ it t)=co κ it (G t)):Sim prog w A E s κ it (λu:Unit=>u) (modify F:StateT Á6 Sem Unit) (modify G:TM Unit):=λt b t' e Q q=>by
 cases e;refine kasC_modify ?_;rw[h t];exact q
theorem y61:Sim prog w A E s κ it (λu:Unit=>u) (liftM (rule x):StateT Á6 Sem Unit) (pure ():TM Unit):=λt b t' e Q q=>by
 cases e;exact kasC_lift (Ë6 q)
theorem M31[Decidable c](h1:c->Sim prog w A E s κ it r m f)(h2:¬ c->Sim prog w A E s κ it r m' f'):Sim prog w A E s κ it r (if c then m else m') (if c then f else f'):=by
 split
 ·exact h1 (by assumption)
 ·exact h2 (by assumption)
def x00(r:β->α):ForInStep β->ForInStep α
 |.done b=>.done (r b)|.yield b=>.yield (r b)
theorem W50(h:∀ x b,Sim prog w A E s κ it (x00 r) (body x (r b)) (body' x b)):∀ (l:List Nat) (b:β),Sim prog w A E s κ it r (forIn l (r b) body) (forIn l b body')
 |[],b=>by
  rw[Ó8,Ó8];exact x50 b rfl
 |x::l,b=>by
  rw[Ê6,Ê6];refine k80 (h x b) λst=>?_;cases st with
  |done b'=>exact x50 b' rfl|yield b'=>exact W50 h l b'
end
def Ora(prog:â)(w:õ)(A:ü)(s:Å)(κ:Ì1)(it:Array Keyed)(n:Nat)(cmp:Nat->Nat->Bool):Prop:=∀ i j (C:Bool->Å->Prop),i < n->j < n->C (cmp i j) s->kas_cmp prog w A κ it i j C s
theorem H01(O:Ora prog w A s κ it n cmp)(x y:Nat):Sim prog w A E s κ it (λo:Bool=>some o) (lt' (ó it x) (ó it y)) (ltT n cmp x y):=λt b t' e Q q=>by
 unfold ltT at e;split at e
 ·rename_i h;cases e;rw[lt'_eq];refine kasC_bind (kasC_get ?_);exact kasC_bind (kasC_lift (Ø0 (Ä6 (O x y (λc s'=>s'=s/\c=cmp x y) h.1 h.2 ⟨rfl,rfl⟩) (λc s' hc=>by obtain⟨rfl,rfl⟩:=hc;exact kasC_pure q) λ_ _ hF=>hF.elim)))
 ·cases e
theorem F90(p:Array Nat)(i:Nat):Sim prog w A E s κ it (ó it) (elem' (p.map (ó it)) i) (j81 p i):=by
 rw[elem'_eq];unfold j81;rw[Array.getElem?_map,ý];cases p[i]? with
 |none=>exact λt b t' e=>by cases e
 |some x=>exact x50 x rfl
theorem y71(O:Ora prog w A s κ it n cmp)(i j:Nat):Sim prog w A E s κ it (λo:Bool=>some o) (ltAt' i j) (M11 n cmp i j):=by
 rw[ltAt'_eq];unfold M11;refine k80 R40 λt=>?_;exact k80 (F90 t.a i) λx=>k80 (F90 t.a j) λy=>H01 O x y
theorem M41(i j:Nat):Sim prog w A E s κ it (λu:Unit=>u) (reverseSlice' i j) (x92 i j):=by
 rw[reverseSlice'_eq];refine o00 λt=>?_;show É9 κ (mirror (t.a.map (ó it)) i j ((j - i) / 2)) t.pending t.minGallop none=É9 κ ((mirror t.a i j ((j - i) / 2)).map (ó it)) t.pending t.minGallop none;rw[show mirror (t.a.map (ó it)) i j ((j - i) / 2)=(mirror t.a i j ((j - i) / 2)).map (ó it) from kas_swaps_map (ó it) (λk=>i + k) (λk=>j - 1 - k) _ t.a]
theorem y81(k l:Nat):Sim prog w A E s κ it (λu:Unit=>u) (moveDown' k l) (M21 k l):=λt b t' e Q q=>by
 rw[moveDown'_eq];unfold M21 at e;split at e
 ·rename_i h;cases e;refine kasC_modify ?_;have e:bubble (t.a.map (ó it)) k (k - l)=(mvL t.a k l).map (ó it):=by
   rw[a12 h.1 h.2];exact kas_swaps_map (ó it) (λi=>k - i) (λi=>k - i - 1) _ t.a
  show Q () (É9 κ (bubble (t.a.map (ó it)) k (k - l)) t.pending t.minGallop none) s;rw[e];exact q
 ·cases e
def r90{β:Type}(f:Nat->β->TM (ForInStep β)):Nat->Nat->β->TM β
 |0,_,b=>pure b
 |n + 1,i,b=>f i b >>= λx=>match x with
  |.done b=>pure b|.yield b=>r90 f n (i + 1) b
theorem W60(f:Nat->β->TM (ForInStep β)):∀ (n i:Nat) (b:β),r90 f n i b=forIn (Ã0 i n 1) b f
 |0,_,_=>by rw[List.range'_zero,Ó8];rfl
 |n + 1,i,b=>by
  rw[Ê3,Ê6];show(f i b >>= λx=>_)=_
  congr 1
  funext x
  cases x with
  |done b=>rfl|yield b=>exact W60 f n (i + 1) b
theorem G00{α β:Type}{r:β->α}{a b:Nat}{c:β}{body:Nat->α->StateT Á6 Sem (ForInStep α)}{body':Nat->β->TM (ForInStep β)}(h:∀ x b,Sim prog w A E s κ it (x00 r) (body x (r b)) (body' x b)):Sim prog w A E s κ it r (forIn [a:b] (r c) body) (r90 body' (b - a) a c):=by
 rw[Std.Legacy.Range.forIn_eq_forIn_range',W60];have e:[a:b].size=b - a:=by simp[Std.Legacy.Range.size]
 show Sim prog w A E s κ it r (forIn (Ã0 a [a:b].size 1) (r c) body) _;rw[e];exact W50 h _ c
def m10(prog:â)(w:õ)(A:ü)(E:Ä->Å->Prop)(s:Å)(κ:Ì1)(it:Array Keyed){α β:Type}(r:β->α)(m:StateT Á6 Sem α):Type:={f:TM β // Sim prog w A E s κ it r m f}
section
variable {α β α' β':Type}{r:β->α}{r':β'->α'}
def b20{a:α}(b:β)(e:a=r b):m10 prog w A E s κ it r (pure a):=⟨pure b,x50 b e⟩
def a60{m:StateT Á6 Sem α}{k:α->StateT Á6 Sem α'}(h:m10 prog w A E s κ it r m)(hk:∀ b,m10 prog w A E s κ it r' (k (r b))):m10 prog w A E s κ it r' (m >>= k):=⟨h.1 >>= λb=>(hk b).1,k80 h.2 λb=>(hk b).2⟩
def k90{c:Prop}[Decidable c]{m m':StateT Á6 Sem α}(h1:m10 prog w A E s κ it r m)(h2:m10 prog w A E s κ it r m'):m10 prog w A E s κ it r (if c then m else m'):=⟨if c then h1.1 else h2.1,M31 (λ_=>h1.2) λ_=>h2.2⟩
def o70{m:StateT Á6 Sem α}:m10 prog w A E s κ it r m:=⟨λ_=>none,λ_ _ _ e=>by cases e⟩
def y91{m m':StateT Á6 Sem α}(e:m=m')(h:m10 prog w A E s κ it r m'):m10 prog w A E s κ it r m:=⟨h.1,by rw[e];exact h.2⟩
def o80{a b:Nat}(c:β){body:Nat->α->StateT Á6 Sem (ForInStep α)}(h:∀ x b,m10 prog w A E s κ it (x00 r) (body x (r b))):m10 prog w A E s κ it r (forIn [a:b] (r c) body):=⟨r90 (λx b=>(h x b).1) (b - a) a c,G00 λx b=>(h x b).2⟩
end
def c81(O:Ora prog w A s κ it n cmp)(i j:Nat):m10 prog w A E s κ it (λo:Bool=>some o) (ltAt' i j):=⟨M11 n cmp i j,y71 O i j⟩
def k62(i j:Nat):m10 prog w A E s κ it (λu:Unit=>u) (reverseSlice' i j):=⟨x92 i j,M41 i j⟩
def o82(i j:Nat):m10 prog w A E s κ it (λu:Unit=>u) (moveDown' i j):=⟨M21 i j,y81 i j⟩
def z01(x:String):m10 prog w A E s κ it (λu:Unit=>u) (liftM (rule x):StateT Á6 Sem Unit):=⟨pure (),y61⟩
def C72(O:Ora prog w A s κ it n cmp)(lo n' ok:Nat):m10 prog w A E s κ it (λ_:Unit=>true) (binarySort' lo n' ok):=by
 refine y91 (binarySort'_eq lo n' ok) ?_;refine a60 (r:=λ_:Unit=>((none,()):Option Bool × Unit)) (o80 () λk _=>?_) λ_=>b20 () rfl;refine a60 (r:=λx:Nat × Nat=>((none,x):Option Bool × Nat × Nat)) (o80 (0,k) λ_ x=>?_) λx=>a60 (o82 _ _) λ_=>b20 (Ý ()) rfl;exact k90 (b20 (ã x) rfl) (a60 (c81 O _ _) λo=>k90 (b20 (Ý (x.1,_)) rfl) (b20 (Ý (_,x.2)) rfl))
def a22(O:Ora prog w A s κ it n cmp)(lo z:Nat):m10 prog w A E s κ it (λm:Nat=>some m) (countRun' lo z):=by
 refine y91 (countRun'_eq lo z) ?_;refine a60 (r:=λm:Nat=>((none,m):Option (Option Nat) × Nat)) (o80 1 λ_ m=>a60 (c81 O _ _) λ_=>k90 (b20 (ã m) rfl) (b20 (Ý (m + 1)) rfl)) λm=>?_;refine k90 (b20 m rfl) (k90 (a60 (c81 O _ _) λ_=>k90 (b20 m rfl) (a60 (k62 _ _) λ_=>?_)) ?_)
 all_goals
  refine a60 (z01 _) λ_=>a60 (r:=λm:Nat=>((none,m,0):Option (Option Nat) × Nat × Nat)) (o80 (m + 1) λ_ m=>a60 (c81 O _ _) λ_=>k90 (k90 o70 (b20 (Ý (m + 1)) rfl)) (a60 (c81 O _ _) λ_=>k90 (b20 (ã m) rfl) o70)) λm=>?_;exact k90 o70 (a60 (k62 _ _) λ_=>a60 (r:=λm:Nat=>((none,m):Option (Option Nat) × Nat)) (o80 m λ_ m=>a60 (c81 O _ _) λ_=>k90 (b20 (ã m) rfl) (b20 (Ý (m + 1)) rfl)) λm=>b20 m rfl)
def tLt(O:Ora prog w A s κ it n cmp)(x y:Nat):m10 prog w A E s κ it (λo:Bool=>some o) (lt' (ó it x) (ó it y)):=⟨ltT n cmp x y,H01 O x y⟩
def p90(p:Array Nat)(i:Nat):m10 prog w A E s κ it (ó it) (elem' (p.map (ó it)) i):=⟨j81 p i,F90 p i⟩
def j91:Bool->Keyed->Array Keyed->Nat->Nat->Nat->StateT SortSt Sem (Option Nat):=sortPriv% PySem.Builtin.gallop
def R50(O:Ora prog w A s κ it n cmp)(left:Bool)(y:Nat)(p:Array Nat)(base z hint:Nat):m10 prog w A E s κ it (λm:Nat=>some m) (j91 left (ó it y) (p.map (ó it)) base z hint):=by
 refine a60 (r:=λb:Bool=>some b) (a60 (p90 p (base + hint)) λx=>k90 (tLt O x y) (a60 (tLt O y x) λb=>b20 (!b) rfl)) λb=>?_;refine k90 ?_ ?_ <;> refine a60 (r:=λx:Nat × Nat=>((none,x):Option (Option Nat) × Nat × Nat)) (o80 (0,1) λ_ x=>k90 (b20 (ã x) rfl) (a60 (r:=λb:Bool=>some b) (a60 (p90 p _) λx=>k90 (tLt O x y) (a60 (tLt O y x) λb=>b20 (!b) rfl)) λb=>k90 (b20 (ã x) rfl) (b20 (Ý (x.2,2 * x.2 + 1)) rfl))) λx=>?_
 ·exact a60 (r:=λx:Nat × Nat=>((none,x):Option (Option Nat) × Nat × Nat)) (o80 (hint + x.1 + 1,hint + min x.2 (z - hint)) λ_ x=>k90 (b20 (ã x) rfl) (a60 (r:=λb:Bool=>some b) (a60 (p90 p _) λx=>k90 (tLt O x y) (a60 (tLt O y x) λb=>b20 (!b) rfl)) λb=>k90 (b20 (Ý (_,x.2)) rfl) (b20 (Ý (x.1,_)) rfl))) λx=>b20 x.2 rfl
 ·exact a60 (r:=λx:Nat × Nat=>((none,x):Option (Option Nat) × Nat × Nat)) (o80 (hint + 1 - min x.2 (hint + 1),hint - x.1) λ_ x=>k90 (b20 (ã x) rfl) (a60 (r:=λb:Bool=>some b) (a60 (p90 p _) λx=>k90 (tLt O x y) (a60 (tLt O y x) λb=>b20 (!b) rfl)) λb=>k90 (b20 (Ý (_,x.2)) rfl) (b20 (Ý (x.1,_)) rfl))) λx=>b20 x.2 rfl
def R60{α β:Type}{r:β->α}{a b:Nat}{i:α}(b':Nat)(eb:b=b')(c:β)(ec:i=r c){body:Nat->α->StateT Á6 Sem (ForInStep α)}(h:∀ x b,m10 prog w A E s κ it (x00 r) (body x (r b))):m10 prog w A E s κ it r (forIn [a:b] i body):=⟨r90 (λx b=>(h x b).1) (b' - a) a c,by subst eb;subst ec;exact G00 λx b=>(h x b).2⟩
def tIf{α β:Type}{r:β->α}{c:Prop}[Decidable c]{m m':StateT Á6 Sem α}(c':Bool)(e:c↔c'=true)(h1:m10 prog w A E s κ it r m)(h2:m10 prog w A E s κ it r m'):m10 prog w A E s κ it r (if c then m else m'):=⟨match c' with
 |true=>h1.1
 |false=>h2.1,by
 cases c' with
 |true=>rw[if_pos (e.mpr rfl)];exact h1.2
 |false=>rw[if_neg λh=>by cases e.mp h];exact h2.2⟩
def M51:m10 prog w A E s κ it (co κ it) (get:StateT Á6 Sem Á6):=⟨get,R40⟩
def o92:Nat->StateT SortSt Sem Unit:=sortPriv% PySem.Builtin.setMinGallop
def a32(g:Nat):m10 prog w A E s κ it (λu:Unit=>u) (o92 g):=⟨modify λt=>{ t with minGallop:=g },o00 λ_=>rfl⟩
def y02(O:Ora prog w A s κ it n cmp)(left:Bool)(y:Nat)(p:Array Nat)(base z z' hint:Nat)(e:z=z'):m10 prog w A E s κ it (λm:Nat=>some m) (j91 left (ó it y) (p.map (ó it)) base z hint):=y91 (by rw[e]) (R50 O left y p base z' hint)
def z11:Array Keyed->Array Keyed->StateT SortSt Sem (Array Keyed):=sortPriv% PySem.Builtin.mergeLo
def rs{γ:Type}(it:Array Keyed)(x:Option (Array Nat) × Array Nat × γ):Option (Array Keyed) × Array Keyed × γ:=(x.1.map (Array.map (ó it)),x.2.1.map (ó it),x.2.2)
theorem sz(it:Array Keyed)(i:Nat)(p:Array Nat):(i == (p.map (ó it)).size)=true↔(i == p.size)=true:=by rw[size_map]
local macro_rules
 | `(tactic| ac_rfl)=>`(tactic| simp only[rs,x00,map_some,Option.map_none,Ö7,Array.map_push,Î2,size_map])| `(tactic| rwa [$O:term,$p:term,$q:term,$out:term,$ia:term,$ib:term,$mg:term,$ac:term,$bc:term])=>`(tactic| exact a60 (p90 $p $ia) λy=>tIf _ (sz _ _ _) (b20 (ã (some (push $out y++Å3 $q $ib++Å3 $p ($ia + 1)),push $out y,$ia + 1,$ib,$mg,$ac,$bc)) (by ac_rfl)) (k90 (b20 (ã (none,push $out y,$ia + 1,$ib,$mg,$ac,$bc)) (by ac_rfl)) (b20 (Ý (none,push $out y,$ia + 1,$ib,$mg,$ac,$bc)) (by ac_rfl))))| `(tactic| rwa [$O:term,$p:term,$q:term,$out:term,$ia:term,$ib:term,$mg:term,$ac:term,$bc:term,$_x0:term])=>`(tactic| exact a60 (p90 $q $ib) λy=>tIf _ (sz _ _ _) (b20 (ã (some (push $out y++Å3 $p $ia++Å3 $q ($ib + 1)),push $out y,$ia,$ib + 1,$mg,$ac,$bc)) (by ac_rfl)) (a60 (p90 $p $ia) λz=>a60 (y02 $O true z $q ($ib + 1) _ (Ô1 $q - ($ib + 1)) 0 (by simp[rs])) λk=>k90 (tIf _ (sz _ _ _) (b20 (ã (some (push $out y++Å3 $q ($ib + 1) ($ib + 1 + k)++Å3 $p $ia++Å3 $q ($ib + 1 + k)),push $out y++Å3 $q ($ib + 1) ($ib + 1 + k),$ia,$ib + 1 + k,$mg,$ac,k)) (by ac_rfl)) ((by rwa [$O:term,$p:term,$q:term,(push $out y++Å3 $q ($ib + 1) ($ib + 1 + k)),$ia:term,($ib + 1 + k),$mg:term,$ac:term,k]))) ((by rwa [$O:term,$p:term,$q:term,(push $out y),$ia:term,($ib + 1),$mg:term,$ac:term,k]))))| `(tactic| rwa [$O:term,$p:term,$q:term,$out:term,$ia:term,$ib:term,$mg:term,$bc:term,$_x0:term,$_x1:term,$_x2:term])=>`(tactic| exact a60 (a32 $mg) λ_=>a60 (p90 $q $ib) λy=>a60 (y02 $O false y $p $ia _ (Ô1 $p - $ia) 0 (by simp[rs])) λk=>k90 (tIf _ (sz _ _ _) (b20 (ã (some ($out++Å3 $p $ia ($ia + k)++Å3 $q $ib++Å3 $p ($ia + k)),$out++Å3 $p $ia ($ia + k),$ia + k,$ib,$mg,k,$bc)) (by ac_rfl)) (tIf _ (sz _ _ _) (b20 (ã (some ($out++Å3 $p $ia ($ia + k)++Å3 $p ($ia + k)++Å3 $q $ib),$out++Å3 $p $ia ($ia + k),$ia + k,$ib,$mg,k,$bc)) (by ac_rfl)) ((by rwa [$O:term,$p:term,$q:term,($out++Å3 $p $ia ($ia + k)),($ia + k),$ib:term,$mg:term,k,$bc:term,rfl])))) ((by rwa [$O:term,$p:term,$q:term,$out:term,$ia:term,$ib:term,$mg:term,k,$bc:term,rfl])))
def z21(O:Ora prog w A s κ it n cmp)(p q:Array Nat):m10 prog w A E s κ it (Array.map (ó it)) (z11 (p.map (ó it)) (q.map (ó it))):=by
 refine a60 (z01 _) λ_=>a60 (p90 q 0) λx=>?_;refine tIf _ (sz it _ _) (b20 (#[x]++p.extract 0++q.extract 1) (by simp only[Ö7,Î2,size_map,List.map_toArray,Ã5,map_nil])) ?_
 refine tIf _ (sz it _ _) (b20 (#[x]++q.extract 1++p.extract 0) (by simp only[Ö7,Î2,size_map,List.map_toArray,Ã5,map_nil])) ?_
 refine a60 M51 λt=>?_;refine a60 (r:=rs it) (R60 (p.size + q.size) (by simp) (none,#[x],0,1,t.minGallop) (by simp[rs];rfl) λ_ st=>?_) λst=>?_
 ·obtain⟨_,out,ia,ib,mg⟩:=st;refine a60 (r:=rs it) (R60 (p.size + q.size) (by simp) (none,out,ia,ib,0,0) (by simp[rs]) λ_ st=>?_) λst=>?_
  ·obtain⟨_,out,ia,ib,ac,bc⟩:=st;refine a60 (p90 q ib) λy=>a60 (p90 p ia) λz=>a60 (tLt O y z) λo=>k90 (a60 (p90 q ib) λy=>?_) (a60 (p90 p ia) λy=>?_)
   ·exact tIf _ (sz it _ _) (b20 (ã (some (out.push y++p.extract ia++q.extract (ib + 1)),out.push y,ia,ib + 1,0,bc + 1)) (by simp[rs,x00])) (k90 (b20 (ã (none,out.push y,ia,ib + 1,0,bc + 1)) (by simp[rs,x00])) (b20 (Ý (none,out.push y,ia,ib + 1,0,bc + 1)) (by simp[rs,x00])))
   ·exact tIf _ (sz it _ _) (b20 (ã (some (out.push y++q.extract ib++p.extract (ia + 1)),out.push y,ia + 1,ib,ac + 1,0)) (by simp[rs,x00])) (k90 (b20 (ã (none,out.push y,ia + 1,ib,ac + 1,0)) (by simp[rs,x00])) (b20 (Ý (none,out.push y,ia + 1,ib,ac + 1,0)) (by simp[rs,x00])))
  ·obtain⟨o,out,ia,ib,ac,bc⟩:=st;cases o with
   |some v=>exact b20 (ã (some v,out,ia,ib,mg)) rfl
   |none =>
    refine a60 (z01 _) λ_=>?_;refine a60 (r:=rs it) (R60 (p.size + q.size) (by simp) (none,out,ia,ib,mg + 1,ac,bc) (by simp[rs]) λ_ st=>?_) λst=>?_
    ·obtain⟨_,out,ia,ib,mg,ac,bc⟩:=st;exact k90 ((by rwa [O,p,q,out,ia,ib,(mg - 1),bc,rfl,rfl,rfl])) ((by rwa [O,p,q,out,ia,ib,mg,bc,rfl,rfl,rfl]))
    ·obtain⟨o,out,ia,ib,mg,ac,bc⟩:=st;cases o with
     |some v=>exact b20 (ã (some v,out,ia,ib,mg)) rfl|none=>exact a60 (a32 (mg + 1)) λ_=>b20 (Ý (none,out,ia,ib,mg + 1)) rfl
 ·obtain⟨o,_⟩:=st;cases o with
  |none=>exact o70|some v=>exact b20 v rfl
def C82(t':Tw){S:Á6}(e:S=co κ it t'):m10 prog w A E s κ it (λu:PUnit=>u) (set S:StateT Á6 Sem PUnit):=⟨modify λ_=>t',by subst e;exact o00 (F:=λ_=>co κ it t') λ_=>rfl⟩
def p02{F:Á6->Á6}(G:Tw->Tw)(h:∀ t,F (co κ it t)=co κ it (G t)):m10 prog w A E s κ it (λu:Unit=>u) (modify F:StateT Á6 Sem Unit):=⟨modify G,o00 h⟩
theorem fold_map(f:Nat->Keyed)(d:Nat):∀ (l:List Nat) (j:Nat) (a:Array Nat),((l.map f).zipIdx j).foldl (λa x=>setIfInBounds a (d + x.2) x.1) (a.map f)=((l.zipIdx j).foldl (λa x=>setIfInBounds a (d + x.2) x.1) a).map f
 |[],_,_=>rfl
 |x::l,j,a=>by
  have e:(a.map f).setIfInBounds (d + j) (f x)=(a.setIfInBounds (d + j) x).map f:=by simp
  show((l.map f).zipIdx (j + 1)).foldl _ ((a.map f).setIfInBounds (d + j) (f x))=_;rw[e];exact fold_map f d l (j + 1) _
def spl(a:Array Nat)(d:Nat)(l:List Nat):Array Nat:=⟨a.toList.take d++(l++a.toList.drop (d + l.length))⟩
theorem H11(d:Nat):∀ (l:List Nat) (j:Nat) (a:Array Nat),d + j + l.length<=a.size->(l.zipIdx j).foldl (λa x=>setIfInBounds a (d + x.2) x.1) a=spl a (d + j) l
 |[],j,a,_=>by
  show a=_;unfold spl;rw[Ä2,Nat.add_zero,Ð4,List.take_append_drop]
 |x::l,j,a,h=>by
  have hl:d + j + (l.length + 1)<=a.toList.length:=h;show(l.zipIdx (j + 1)).foldl _ (a.setIfInBounds (d + j) x)=_;rw[H11 d l (j + 1) _ (by rw[Array.size_setIfInBounds];have:a.toList.length=a.size:=rfl;omega)]
  unfold spl;rw[Array.toList_setIfInBounds,List.set_eq_take_append_cons_drop,if_pos ∅]
  generalize a.toList=m at hl;have e1:(m.take (d + j)).length=d + j:=by rw[Ã7];omega
  have e2:(m.take (d + j)++x::m.drop (d + j + 1)).take (d + (j + 1))=m.take (d + j)++[x]:=by
   rw[List.take_append,e1,show d + (j + 1) - (d + j)=1 by omega,Ï8 (Ô (Ö4 e1) ∅)]
   rfl
  have e3:(m.take (d + j)++x::m.drop (d + j + 1)).drop (d + (j + 1) + l.length)=m.drop (d + j + (l.length + 1)):=by
   rw[List.drop_append,e1,show d + (j + 1) + l.length - (d + j)=l.length + 1 by omega,List.drop_eq_nil_of_le (Ô (Ö4 e1) ∅),List.drop_succ_cons,List.drop_drop,Ð4,show d + j + 1 + l.length=d + j + (l.length + 1) by omega]
  rw[e2,e3,Õ9];rfl
def p12{F:Á6->Á6}(c:Tw->Bool)(G:Tw->Tw)(h:∀ t,c t=true->F (co κ it t)=co κ it (G t)):m10 prog w A E s κ it (λu:Unit=>u) (modify F:StateT Á6 Sem Unit):=⟨λt=>match c t with
 |true=>some ((),G t)
 |false=>none,λt b t' e Q q=>by
 dsimp only at e;cases hc:c t with
 |false=>rw[hc] at e;cases e
 |true =>
  rw[hc] at e;cases e;refine kasC_modify ?_;rw[h t hc];exact q⟩
def W70(O:Ora prog w A s κ it n cmp)(i:Nat):m10 prog w A E s κ it (λ_:Unit=>true) (mergeAt' i):=by
 refine a60 M51 λt=>?_;generalize (Õ7 (co κ it t))[i]?=o1;generalize (Õ7 (co κ it t))[i + 1]?=o2;rcases o1 with _ | ⟨sa,na,pw⟩
 ·exact o70
 rcases o2 with _ | ⟨sb,nb,_⟩
 ·exact o70
 refine a60 (C82 { t with pending:=(t.pending.setIfInBounds i (sa,na + nb,pw)).eraseIdxIfInBounds (i + 1) } rfl) λ_=>?_;refine a60 (p90 t.a sb) λy=>a60 (R50 O false y t.a sa na 0) λk=>?_;refine k90 (b20 () rfl) (a60 (p90 t.a _) λy=>a60 (R50 O true y t.a sb nb (nb - 1)) λnb=>k90 (b20 () rfl) (k90 (a60 (y91 ?_ (z21 O (t.a.extract (sa + k) sb) (t.a.extract sb (sb + nb)))) λv=>?_) o70))
 ·rw[Î2,Î2];rfl
 ·refine a60 (p12 (λu=>ble (sa + k + v.toList.length) u.a.size) (λu=>{ u with a:=spl u.a (sa + k) v.toList }) λu hu=>?_) λ_=>a60 M51 λ_=>b20 () rfl;have e:=fold_map (ó it) (sa + k) v.toList 0 u.a;rw[← Array.toList_map,H11 (sa + k) v.toList 0 u.a (Nat.le_of_ble_eq_true hu)] at e;exact congrArg (λa=>É9 κ a u.pending u.minGallop none) e
structure y12(prog:Program)(w:World)(A:Around)(E:Value->Shared->Prop)(s:Shared)(κ:SortKind)(it:Array Keyed)(z:Nat)(m:StateT SortSt Sem Unit) where
 body:Nat->Nat->TM (ForInStep Nat)
 tail:Nat->TM Unit
 sim:Sim prog w A E s κ it (λu:Unit=>u) m (r90 body z 0 0 >>= tail)
def mkH{α:Type}{r:Nat->α}{i:α}{z:Nat}(e0:i=r 0){B:Nat->α->StateT Á6 Sem (ForInStep α)}{k:α->StateT Á6 Sem Unit}(hb:∀ x lo,m10 prog w A E s κ it (x00 r) (B x (r lo)))(hk:∀ lo,m10 prog w A E s κ it (λu:Unit=>u) (k (r lo))) :
  y12 prog w A E s κ it z (forIn [0:z] i B >>= k) where
 body:=λx lo=>(hb x lo).1
 tail:=λlo=>(hk lo).1
 sim:=by
  subst e0;exact k80 (G00 λx b=>(hb x b).2) λb=>(hk b).2
structure c91(prog:Program)(w:World)(A:Around)(E:Value->Shared->Prop)(s:Shared)(κ:SortKind)(it:Array Keyed)(m:StateT SortSt Sem Unit) where
 body:Tw->Nat->Nat->TM (ForInStep Nat)
 tail:Tw->Nat->TM Unit
 sim:Sim prog w A E s κ it (λu:Unit=>u) m (get >>= λt=>r90 (body t) t.a.size 0 0 >>= tail t)
def mkW{F:Á6->StateT Á6 Sem Unit}(h:∀ t:Tw,y12 prog w A E s κ it t.a.size (F (co κ it t))):c91 prog w A E s κ it (get >>= F) where
 body:=λt=>(h t).body
 tail:=λt=>(h t).tail
 sim:=k80 R40 λt=>(h t).sim
def c91.cast{m m':StateT Á6 Sem Unit}(e:m=m')(h:c91 prog w A E s κ it m'):c91 prog w A E s κ it m:=⟨h.body,h.tail,by rw[e];exact h.sim⟩
def i50(O:Ora prog w A s κ it n cmp):c91 prog w A E s κ it sortRuns':=by
 refine c91.cast sortRuns'_eq (mkW λt=>?_);generalize hz:Ô1 (arrOf (co κ it t))=z;have hz':t.a.size=z:=Array.size_map.symm.trans hz;clear hz;subst hz';refine mkH (r:=λm:Nat=>((none,m):Option Unit × Nat)) rfl (λ_ lo=>k90 (b20 (ã lo) rfl) (a60 (a22 O _ _) λm=>?_)) (λ_=>?_)
 ·refine k90 (a60 (z01 _) λ_=>a60 (C72 O _ _ _) λ_=>k90 o70 (a60 M51 λu=>?_)) (a60 M51 λu=>?_)
  all_goals
   generalize Array.back? (Õ7 (co κ it u))=o1;rcases o1 with _ | ⟨s1,n1,_⟩
   ·exact a60 (p02 (λu=>{ u with pending:=u.pending.push (lo,_,0) }) λ_=>rfl) λ_=>b20 (Ý (lo + _)) rfl
   ·refine a60 (r:=λ_:Unit=>((none,()):Option Unit × Unit)) (o80 () λ_ _=>a60 M51 λu=>?_) λ_=>a60 (p02 (λu=>{ u with pending:=u.pending.modify (u.pending.size - 1) λx=>(x.1,x.2.1,_) }) λ_=>rfl) λ_=>a60 (p02 (λu=>{ u with pending:=u.pending.push (lo,_,0) }) λ_=>rfl) λ_=>b20 (Ý (lo + _)) rfl;dsimp only;generalize (if Ô1 (Õ7 (co κ it u)) > 1 then(Õ7 (co κ it u))[Ô1 (Õ7 (co κ it u)) - 2]? else none)=o2;rcases o2 with _ | ⟨_,_,old⟩
    ·exact b20 (ã ()) rfl
    ·exact k90 (b20 (ã ()) rfl) (a60 (W70 O _) λ_=>k90 o70 (b20 (Ý ()) rfl))
 ·exact a60 (r:=λ_:Unit=>((none,()):Option Unit × Unit)) (o80 () λ_ _=>a60 M51 λu=>k90 (b20 (ã ()) rfl) (a60 (W70 O _) λ_=>k90 o70 (b20 (Ý ()) rfl))) λ_=>b20 () rfl
end
def upN:Nat->Nat->Nat->List Nat
 |0,_,h=>[h]|b + 1,v,h=>upN b (2 * v) (h + v)++upN b (2 * v) h
def neN:Nat->Nat->Nat->List Nat
 |0,_,_=>[]|b + 1,v,h=>(h + v)::(neN b (2 * v) (h + v)++neN b (2 * v) h)
def sN(b:Nat):List Nat:=0::neN b 1 0
def z50:Nat->Nat->Nat->List Nat
 |0,_,_=>[]|k + 1,i,m=>if Nat.testBit m 0 then i::z50 k (i + 1) (m / 2) else z50 k (i + 1) (m / 2)
def k72:List Nat->List Nat->Bool
 |[],[]=>false|[],_::_=>true|_::_,[]=>false|a::r,b::q=>if beq a b then k72 r q else Nat.blt a b
def t80(K i j:Nat):Bool:=k72 (z50 K 0 i) (z50 K 0 j)
section
variable {prog:â}{w:õ}{A:ü}{E:Ä->Å->Prop}{s:Å}{κ:Ì1}{it:Array Keyed}
def T0(K:Nat):Tw:=⟨⟨í (2 ^ K)⟩,#[],7⟩
def TZ(K p:Nat):Tw:=⟨⟨sN K⟩,#[(0,2 ^ K,p)],7⟩
theorem x10{β:Type}{f:Nat->β->TM (ForInStep β)}{n i:Nat}{b b':β}{t t':Tw}{r:Option (β × Tw)}(h:f i b t=some (.yield b',t'))(h2:r90 f n (i + 1) b' t'=r):r90 f (n + 1) i b t=r:=by
 show Option.bind (f i b t) _=r;rw[h];exact h2
def goW{K:Nat}(O:Ora prog w A s κ it (2 ^ K) (t80 K)):TM Unit:=get >>= λt=>r90 ((i50 (E:=E) O).body t) t.a.size 0 0 >>= (i50 (E:=E) O).tail t
theorem two{K n:Nat}{t:Tw}{r:Option (Unit × Tw)}(O:Ora prog w A s κ it (2 ^ K) (t80 K))(h:r90 ((i50 (E:=E) O).body (T0 K)) (2 ^ K) 0 0 (T0 K)=some (n,t))(h2:(i50 (E:=E) O).tail (T0 K) n t=r):goW (E:=E) O (T0 K)=r:=by
 show Option.bind (r90 ((i50 (E:=E) O).body (T0 K)) (í (2 ^ K)).length 0 0 (T0 K)) _=r;rw[ð,h];exact h2
theorem w1(O:Ora prog w A s κ it (2 ^ 1) (t80 1)):goW (E:=E) O (T0 1)=some ((),TZ 1 0):=by kernel_rfl
theorem w2(O:Ora prog w A s κ it (2 ^ 2) (t80 2)):goW (E:=E) O (T0 2)=some ((),TZ 2 0):=by kernel_rfl
theorem w3(O:Ora prog w A s κ it (2 ^ 3) (t80 3)):goW (E:=E) O (T0 3)=some ((),TZ 3 0):=by kernel_rfl
theorem w4(O:Ora prog w A s κ it (2 ^ 4) (t80 4)):goW (E:=E) O (T0 4)=some ((),TZ 4 0):=by kernel_rfl
theorem w5(O:Ora prog w A s κ it (2 ^ 5) (t80 5)):goW (E:=E) O (T0 5)=some ((),TZ 5 0):=by kernel_rfl
theorem w6(O:Ora prog w A s κ it (2 ^ 6) (t80 6)):goW (E:=E) O (T0 6)=some ((),TZ 6 1):=by kernel_rfl
theorem C92(O:Ora prog w A s κ it (2 ^ 7) (t80 7)):(i50 (E:=E) O).body (T0 7) 0 0 (T0 7)=some (.yield 32,⟨⟨sN 5++Ã0 32 96⟩,#[(0,32,0)],7⟩):=by kernel_rfl
theorem D02(O:Ora prog w A s κ it (2 ^ 7) (t80 7)):(i50 (E:=E) O).body (T0 7) 1 32 ⟨⟨sN 5++Ã0 32 96⟩,#[(0,32,0)],7⟩=some (.yield 64,⟨⟨sN 5++(upN 5 1 32++Ã0 64 64)⟩,#[(0,32,2),(32,32,0)],7⟩):=by kernel_rfl
theorem D12(O:Ora prog w A s κ it (2 ^ 7) (t80 7)):(i50 (E:=E) O).body (T0 7) 2 64 ⟨⟨sN 5++(upN 5 1 32++Ã0 64 64)⟩,#[(0,32,2),(32,32,0)],7⟩=some (.yield 96,⟨⟨sN 6++(upN 5 1 64++Ã0 96 32)⟩,#[(0,64,1),(64,32,0)],7⟩):=by kernel_rfl
theorem D22(O:Ora prog w A s κ it (2 ^ 7) (t80 7)):(i50 (E:=E) O).body (T0 7) 3 96 ⟨⟨sN 6++(upN 5 1 64++Ã0 96 32)⟩,#[(0,64,1),(64,32,0)],7⟩=some (.yield 128,⟨⟨sN 6++(upN 5 1 64++upN 5 1 96)⟩,#[(0,64,1),(64,32,2),(96,32,0)],7⟩):=by kernel_rfl
theorem D32(O:Ora prog w A s κ it (2 ^ 7) (t80 7)):r90 ((i50 (E:=E) O).body (T0 7)) 124 4 128 ⟨⟨sN 6++(upN 5 1 64++upN 5 1 96)⟩,#[(0,64,1),(64,32,2),(96,32,0)],7⟩=some (128,⟨⟨sN 6++(upN 5 1 64++upN 5 1 96)⟩,#[(0,64,1),(64,32,2),(96,32,0)],7⟩):=by kernel_rfl
theorem D42(O:Ora prog w A s κ it (2 ^ 7) (t80 7)):(i50 (E:=E) O).tail (T0 7) 128 ⟨⟨sN 6++(upN 5 1 64++upN 5 1 96)⟩,#[(0,64,1),(64,32,2),(96,32,0)],7⟩=some ((),TZ 7 1):=by kernel_rfl
theorem w7(O:Ora prog w A s κ it (2 ^ 7) (t80 7)):goW (E:=E) O (T0 7)=some ((),TZ 7 1):=two O (x10 (C92 O) (x10 (D02 O) (x10 (D12 O) (x10 (D22 O) (D32 O))))) (D42 O)
theorem D52(O:Ora prog w A s κ it (2 ^ 8) (t80 8)):(i50 (E:=E) O).body (T0 8) 0 0 (T0 8)=some (.yield 32,⟨⟨sN 5++Ã0 32 224⟩,#[(0,32,0)],7⟩):=by kernel_rfl
theorem D62(O:Ora prog w A s κ it (2 ^ 8) (t80 8)):(i50 (E:=E) O).body (T0 8) 1 32 ⟨⟨sN 5++Ã0 32 224⟩,#[(0,32,0)],7⟩=some (.yield 64,⟨⟨sN 5++(upN 5 1 32++Ã0 64 192)⟩,#[(0,32,3),(32,32,0)],7⟩):=by kernel_rfl
theorem D72(O:Ora prog w A s κ it (2 ^ 8) (t80 8)):(i50 (E:=E) O).body (T0 8) 2 64 ⟨⟨sN 5++(upN 5 1 32++Ã0 64 192)⟩,#[(0,32,3),(32,32,0)],7⟩=some (.yield 96,⟨⟨sN 6++(upN 5 1 64++Ã0 96 160)⟩,#[(0,64,2),(64,32,0)],7⟩):=by kernel_rfl
theorem D82(O:Ora prog w A s κ it (2 ^ 8) (t80 8)):(i50 (E:=E) O).body (T0 8) 3 96 ⟨⟨sN 6++(upN 5 1 64++Ã0 96 160)⟩,#[(0,64,2),(64,32,0)],7⟩=some (.yield 128,⟨⟨sN 6++(upN 5 1 64++(upN 5 1 96++Ã0 128 128))⟩,#[(0,64,2),(64,32,3),(96,32,0)],7⟩):=by kernel_rfl
theorem D92(O:Ora prog w A s κ it (2 ^ 8) (t80 8)):(i50 (E:=E) O).body (T0 8) 4 128 ⟨⟨sN 6++(upN 5 1 64++(upN 5 1 96++Ã0 128 128))⟩,#[(0,64,2),(64,32,3),(96,32,0)],7⟩=some (.yield 160,⟨⟨sN 7++(upN 5 1 128++Ã0 160 96)⟩,#[(0,128,1),(128,32,0)],7⟩):=by kernel_rfl
theorem E02(O:Ora prog w A s κ it (2 ^ 8) (t80 8)):(i50 (E:=E) O).body (T0 8) 5 160 ⟨⟨sN 7++(upN 5 1 128++Ã0 160 96)⟩,#[(0,128,1),(128,32,0)],7⟩=some (.yield 192,⟨⟨sN 7++(upN 5 1 128++(upN 5 1 160++Ã0 192 64))⟩,#[(0,128,1),(128,32,3),(160,32,0)],7⟩):=by kernel_rfl
theorem E12(O:Ora prog w A s κ it (2 ^ 8) (t80 8)):(i50 (E:=E) O).body (T0 8) 6 192 ⟨⟨sN 7++(upN 5 1 128++(upN 5 1 160++Ã0 192 64))⟩,#[(0,128,1),(128,32,3),(160,32,0)],7⟩=some (.yield 224,⟨⟨sN 7++(upN 6 1 128++(upN 5 1 192++Ã0 224 32))⟩,#[(0,128,1),(128,64,2),(192,32,0)],7⟩):=by kernel_rfl
theorem E22(O:Ora prog w A s κ it (2 ^ 8) (t80 8)):(i50 (E:=E) O).body (T0 8) 7 224 ⟨⟨sN 7++(upN 6 1 128++(upN 5 1 192++Ã0 224 32))⟩,#[(0,128,1),(128,64,2),(192,32,0)],7⟩=some (.yield 256,⟨⟨sN 7++(upN 6 1 128++(upN 5 1 192++upN 5 1 224))⟩,#[(0,128,1),(128,64,2),(192,32,3),(224,32,0)],7⟩):=by kernel_rfl
theorem E32(O:Ora prog w A s κ it (2 ^ 8) (t80 8)):r90 ((i50 (E:=E) O).body (T0 8)) 248 8 256 ⟨⟨sN 7++(upN 6 1 128++(upN 5 1 192++upN 5 1 224))⟩,#[(0,128,1),(128,64,2),(192,32,3),(224,32,0)],7⟩=some (256,⟨⟨sN 7++(upN 6 1 128++(upN 5 1 192++upN 5 1 224))⟩,#[(0,128,1),(128,64,2),(192,32,3),(224,32,0)],7⟩):=by kernel_rfl
theorem E42(O:Ora prog w A s κ it (2 ^ 8) (t80 8)):(i50 (E:=E) O).tail (T0 8) 256 ⟨⟨sN 7++(upN 6 1 128++(upN 5 1 192++upN 5 1 224))⟩,#[(0,128,1),(128,64,2),(192,32,3),(224,32,0)],7⟩=some ((),TZ 8 1):=by kernel_rfl
theorem w8(O:Ora prog w A s κ it (2 ^ 8) (t80 8)):goW (E:=E) O (T0 8)=some ((),TZ 8 1):=two O (x10 (D52 O) (x10 (D62 O) (x10 (D72 O) (x10 (D82 O) (x10 (D92 O) (x10 (E02 O) (x10 (E12 O) (x10 (E22 O) (E32 O))))))))) (E42 O)
theorem E52{K:Nat}(h1:1<=K)(h8:K<=8)(O:Ora prog w A s κ it (2 ^ K) (t80 K)):∃ p,goW (E:=E) O (T0 K)=some ((),TZ K p):=by
 match K,h1,h8,O with
 |1,_,_,O=>exact⟨_,w1 O⟩|2,_,_,O=>exact⟨_,w2 O⟩|3,_,_,O=>exact⟨_,w3 O⟩|4,_,_,O=>exact⟨_,w4 O⟩|5,_,_,O=>exact⟨_,w5 O⟩|6,_,_,O=>exact⟨_,w6 O⟩|7,_,_,O=>exact⟨_,w7 O⟩|8,_,_,O=>exact⟨_,w8 O⟩
theorem runL{K:Nat}{vs:List Ä}(h1:1<=K)(h8:K<=8)(hv:vs.length=2 ^ K)(O:Ora prog w A s κ (vs.toArray.zip vs.toArray) (2 ^ K) (t80 K)):MySort.o72 prog w A s vs (λp=>p=sN K) κ:=by
 refine⟨sN K,rfl,λE Q q=>?_⟩;obtain⟨pp,e⟩:=E52 (E:=E) h1 h8 O;have r:=(i50 (E:=E) O).sim (T0 K) () (TZ K pp) e (λu st s'=>s'=s/\failedOf st=none/\arrOf st=((sN K).toArray).map (ó (vs.toArray.zip vs.toArray))) ⟨rfl,rfl,rfl⟩;have est:É9 κ (vs.toArray.zip vs.toArray) #[] 7 none=co κ (vs.toArray.zip vs.toArray) (T0 K):=by
  have e:=kas_range (vs.toArray.zip vs.toArray);rw[show(vs.toArray.zip vs.toArray).size=2 ^ K by simp[hv]] at e
  show _=É9 κ ((toArray (í (2 ^ K))).map (ó (vs.toArray.zip vs.toArray))) #[] 7 none;rw[e]
 rw[est];refine Ä6 r (λx s' h=>?_) λ_ _ e=>e;obtain⟨rfl,h2,h3⟩:=h;exact q x.2 h2 h3
end
end TS
namespace HT
open PySem PyProof.Rows
section
open PySem.SeqAt
open PySem.AutoSeq1 (wpAny_loadPart')
open PySem.MeetsSeq PySem.MeetsSeq2 PySem.MeetsSeq3
open MySort (i30)
def leB(ns ms:List Int):Bool:=!i30 ms ns
theorem z31(x y:Int)(r q:List Int):leB (x::r) (y::q)=if x=y then leB r q else decide (x<=y):=by
 show(!(if y=x then i30 q r else decide (y < x)))=_;by_cases e:x=y
 ·rw[if_pos e,if_pos e.symm];rfl
 ·rw[if_neg e,if_neg (À1 e)];by_cases l:y < x
  ·rw[decide_eq_true l,decide_eq_false ∅];rfl
  ·rw[decide_eq_false l,decide_eq_true ∅];rfl
theorem z41(A:ü)(s:Å)(a:Int)(t:Tok)(c:Int)(u:Tok)(P:â)(w:õ)(E:Ä->Å->Prop)(Q:Ä->Å->Prop)(h:Q (.bool (decide (a<=c))) s):Ñ (Ø P w) A (richCompare .LtE (.int a t) (.int c u)) Q E s :=
 (PyProof.Rows.le_int h:Ñ (Ø P w) A (ö .LtE (.int a t) (.int c u)) Q E s)
theorem G10(l b:Æ)(i1 i2:Array Ä)(n n2:Nat)(dd dd2:Option Æ)(sl sl2:Array (Option Ä))(ns ms:List Int)(hi:É4 i1.toList ns)(hj:É4 i2.toList ms) :
  Meets (Â0.«tuple.__le__» ⟨[.ref l,.ref b],[]⟩) (λ_ R s=>s.heap.get? l=some { cls:=.type "tuple",dict:=dd,data:=.seq i1 n,slots:=sl }/\s.heap.get? b=some { cls:=.type "tuple",dict:=dd2,data:=.seq i2 n2,slots:=sl2 }/\R (.ok (.ret (.bool (leB ns ms)))) s) :=
 .of_wp λP w A R s h=>by
  obtain⟨hp,g,d,tk,os⟩:=s;obtain⟨hl,hb,h⟩:=h;have f2:=Ú2;have z1:i1.size=ns.length:=by rw[← hi.length];simp
  have z2:i2.size=ms.length:=by rw[← hj.length];simp
  wp_walk using Ã3 hl,Ã3 hb,wpAny_forIn_list _ (λrest b s'=>b.1=none/\s'=⟨hp,g,d,tk,os⟩/\∃ (vs ws:List Ä) (ns' ms':List Int),rest=vs.zip ws/\É4 vs ns'/\É4 ws ms'/\ns'.length + i2.size=ms'.length + i1.size/\R (.ok (.ret (.bool (leB ns' ms')))) ⟨hp,g,d,tk,os⟩) _
  case turn =>
   rintro ⟨y,x⟩ rest b s' ⟨hb',rfl,vs,ws,ns',ms',hz,hvi,hwi,hlen,hR⟩;cases hvi with
   |nil=>rw[Õ8] at hz;cases hz
   |cons a t hvi' =>
    cases hwi with
    |nil=>rw[List.zip_nil_right] at hz;cases hz
    |cons c u hwi' =>
     rw[È5] at hz;injection hz with hyx hrest;injection hyx with hy hx;subst hy hx;rw[z31] at hR;simp only[ß] at hlen;obtain⟨e,he,hiff⟩:=x11 A.in1 ⟨hp,g,d,tk,os⟩ a t c u;refine À (he P w _ _ ?_);cases e with
     |true =>
      rw[if_pos (hiff.mp rfl)] at hR;wp_walk;exact⟨rfl,rfl,_,_,_,_,hrest,hvi',hwi',by omega,hR⟩
     |false =>
      rw[if_neg (λq=>absurd (hiff.mpr q) Ò)] at hR;have hri:=z41 A.in1 ⟨hp,g,d,tk,os⟩ a t c u P w
      wp_walk using hri
      exact⟨_,rfl,by simpa using hR⟩
  case fin =>
   rintro ⟨b1,b2⟩ s' ⟨hb',rfl,vs,ws,ns',ms',hz,hvi,hwi,hlen,hR⟩;simp only at hb';subst hb';have hv:leB ns' ms'=decide (i1.size<=i2.size):=by
    cases hvi with
    |nil =>
     cases hwi with
     |nil=>simp only[Ä2] at hlen;exact(decide_eq_true ∅).symm|cons c u hw=>simp only[Ä2,ß] at hlen;exact(decide_eq_true ∅).symm
    |cons a t hv =>
     cases hwi with
     |nil=>simp only[Ä2,ß] at hlen;exact(decide_eq_false ∅).symm|cons c u hw=>rw[È5] at hz;cases hz
   rw[hv] at hR;wp_walk;exact⟨_,rfl,by simpa [tupleCompareSizes] using hR⟩
  case h=>exact⟨rfl,rfl,i1.toList,i2.toList,ns,ms,rfl,hi,hj,by omega,h⟩
end
section
variable {P:â}{w:õ}{A:ü}{E:Ä->Å->Prop}{s:Å}
theorem d01(hl:Ì3 s.heap l i1)(hb:Ì3 s.heap b i2)(hi:É4 i1.toList ns)(hj:É4 i2.toList ms)
  (hu:A.units < Â4) (h:Q (.bool (leB ns ms)) s):Ñ (Ø P w) A (ö .LtE (.ref l) (.ref b)) Q E s:=by
 obtain⟨⟨cls,dd,data,sl⟩,ho,hc,n,hd⟩:=id hl;obtain⟨⟨cls2,dd2,data2,sl2⟩,ho2,hc2,n2,hd2⟩:=id hb;simp only at hc hd hc2 hd2;subst hc hd hc2 hd2;exact richCompare_meets_room (op:=.LtE) ⟨_,ho,rfl⟩ ⟨_,ho2,rfl⟩ PySem.F.slot_tuple_le PySem.F.entry_tuple_le (PySem.F.args_tuple_le_2 _ _) (G10 l b i1 i2 n n2 dd dd2 sl sl2 ns ms hi hj)
  ⟨ho,ho2,show Å8 (leB ns ms)≠Ñ0/\Q (.bool (leB ns ms)) s from⟨(λx=>nomatch x),h⟩⟩ hu
theorem M61{t b:Æ}{ws:List Ä}{Q:Ä->Å->Prop}(ht:Ì3 s.heap t #[])(hb:Ì3 s.heap b ws.toArray)(h:Q (.ref b) s):Ñ (Ø P w) A (Â6 .Add (.ref t) (.ref b)) Q E s:=by
 obtain⟨⟨cls,dd,data,sl⟩,ho,hc,n,hd⟩:=id ht;obtain⟨⟨cls2,dd2,data2,sl2⟩,ho2,hc2,n2,hd2⟩:=id hb;simp only at hc hd hc2 hd2;subst hc hd hc2 hd2;exact concat_meets ⟨_,ho,rfl⟩ ⟨_,ho2,rfl⟩ Ü6 seq_tuple_add Î5 Í7 (Ì8 _ _) (tuple_addW0 t b #[] ws.toArray n n2 dd dd2 sl sl2 (by simp)) ⟨ho,ho2,h⟩
theorem M30:seqRepeat? (.type "tuple")=pure (some (.builtin "tuple.__mul__")):=by
 first | kernel_rfl | rfl | (unfold seqRepeat?;kernel_rfl)
theorem x20:fillsNumberSlot (.type "tuple") "mul"=pure false:=by
 first | kernel_rfl | rfl
theorem d11(a:Int)(t:Tok)(l:Æ)(xs:Array Ä)(n:Nat)(dd:Option Æ)(sl:Array (Option Ä)) :
  Meets (Â0.«int.__rmul__» ⟨[.int a t,.ref l],[]⟩) (λ_ R s=>s.heap.get? l=some { cls:=.type "tuple",dict:=dd,data:=.seq xs n,slots:=sl }/\R (.ok (.ret Ñ0)) s) :=
 .of_wp λP w A R s h=>by obtain⟨hp,g,d,tk,os⟩:=s;obtain⟨hl,h⟩:=h;wp_walk;exact⟨_,rfl,h⟩
theorem z51(l:Æ)(xs:Array Ä)(k:Int)(u:Tok)(n:Nat)(dd:Option Æ)(sl:Array (Option Ä))(h1:¬ (decide (k < -(2 ^ 63)) || decide (k ≥ 2 ^ 63))=true)(h2:(xs.isEmpty || k == 1)=true) :
  Meets (Â0.«tuple.__mul__» ⟨[.ref l,.int k u],[]⟩) (λ_ R s=>s.heap.get? l=some { cls:=.type "tuple",dict:=dd,data:=.seq xs n,slots:=sl }/\R (.ok (.ret (.ref l))) s) :=
 .of_wp λP w A R s h=>by
  obtain⟨hp,g,d,tk,os⟩:=s;obtain⟨hl,h⟩:=h;have f1:=Ô6
  wp_walk using Â3 hl
  simp only[h1,if_false]
  wp_walk using Â3 hl
  exact⟨_,rfl,h⟩
theorem mul_zero(l:Æ)(xs:Array Ä)(k:Int)(u:Tok)(n:Nat)(dd:Option Æ)(sl:Array (Option Ä))(h1:¬ (decide (k < -(2 ^ 63)) || decide (k ≥ 2 ^ 63))=true)(h2:¬ (xs.isEmpty || k == 1)=true)(h3:(decide (k<=0) || xs.isEmpty)=true) :
  Meets (Â0.«tuple.__mul__» ⟨[.ref l,.int k u],[]⟩) (λ_ R s=>s.heap.get? l=some { cls:=.type "tuple",dict:=dd,data:=.seq xs n,slots:=sl }/\R (.ok (.ret (.ref s.heap.objs.size))) { s with heap:=s.heap.push { cls:=.type "tuple",data:=.seq #[] } }) :=
 .of_wp λP w A R s h=>by
  obtain⟨hp,g,d,tk,os⟩:=s;obtain⟨hl,h⟩:=h;have f1:=Ô6
  wp_walk using Â3 hl
  simp only[h1,if_false]
  wp_walk using Â3 hl
  exact⟨_,rfl,h⟩
theorem z61(l:Æ)(xs:Array Ä)(k:Int)(u:Tok)(n:Nat)(dd:Option Æ)(sl:Array (Option Ä))(h1:¬ (decide (k < -(2 ^ 63)) || decide (k ≥ 2 ^ 63))=true)(h2:¬ (xs.isEmpty || k == 1)=true)(h3:¬ (decide (k<=0) || xs.isEmpty)=true)
  (h4:¬ (xs.size:Int) * k > (2 ^ 63 - 1) / 8) (h5:¬ tupleTooMany ((xs.size:Int) * k)=true) (h6:(foldl (λx y=>x++y) #[] (ë k.toNat xs)).size<=sizeLine) :
  Meets (Â0.«tuple.__mul__» ⟨[.ref l,.int k u],[]⟩) (λ_ R s=>s.heap.get? l=some { cls:=.type "tuple",dict:=dd,data:=.seq xs n,slots:=sl }/\R (.ok (.ret (.ref s.heap.objs.size))) { s with heap:=s.heap.push { cls:=.type "tuple",data:=.seq (foldl (λx y=>x++y) #[] (ë k.toNat xs)) } }) :=
 .of_wp λP w A R s h=>by
  obtain⟨hp,g,d,tk,os⟩:=s;obtain⟨hl,h⟩:=h;have f1:=Ô6
  wp_walk using Â3 hl
  simp only[h1,if_false]
  wp_walk using Â3 hl
  simp only[h4,h5,if_false];refine À (m:=Å4 _) (î (Ç ?_) h6);exact⟨_,rfl,h⟩
end
theorem s00(f:α->Option β)(g:α->β):∀ (l:List α),(∀ k∈l,f k=some (g k))->l.filterMap f=l.map g
 |[],_=>rfl|x::r,h=>by rw[Á3,h x Ë,Ã5,s00 f g r λk hk=>h k (Í _ hk)]
section
variable {P:â}{w:õ}{A:ü}{E:Ä->Å->Prop}{s:Å}
theorem q00{t sl:Æ}{xs:Array Ä}{vl vu:Ä}{lo hi:Option Int}{Q:Ä->Å->Prop}(ht:Ì3 s.heap t xs)(hs:s.heap.IsSliceOf sl vl vu .none)(pl:Õ4 vl lo)(pu:Õ4 vu hi)
  (hw:sIx xs.size 0 lo=0/\sIx xs.size xs.size hi=xs.size) (h:Q (.ref t) s):Ñ (Ø P w) A (Ï5 (.ref t) (.ref sl)) Q E s:=by
 obtain⟨os,hos,hcs,hds⟩:=id hs;have hTs:s.TypeIs (.ref sl) "slice":=⟨os,hos,hcs⟩;unfold Ï5;try with_reducible refine Ã1 ?_
 first | refine À (Ç ?_) | skip
 refine À (Ú3 ht.typeIs (-0) ?_);refine À (Á8 (name:=ç "__getitem__") ht.typeIs ò (Â8 ò ht.typeIs entry_tuple_getitem ?_ (Ù1 _ _)))
 show Ñ _ _ (tupleItemsOf (.ref t) >>= _) _ _ s;refine À (tupleItemsOf_ ht (À (Æ5 hTs ?_)));rw[if_pos (-0)];refine À (l70 hs pl pu ?_)
 rw[hw.1,hw.2];show Ñ _ _ (if (((0:Nat):Int) == 0&&(1:Int) == 1&&(xs.size - 0) == xs.size)=true then _ else _) _ _ s;rw[if_pos (by simp)]
 refine À (m:=tupleIsExact _) ?_;unfold tupleIsExact;refine À (Æ5 ht.typeIs (Ç ?_));rw[if_pos (-0)]
 first
  |exact À (Ë6 (Ç ⟨_,rfl,Ç h⟩))
  |exact À (Ë6 (À (Ç (Ç ⟨_,rfl,Ç h⟩))))
theorem u20{t sl:Æ}{xs:List Ä}{u:Tok}{Q:Ä->Å->Prop}(ht:Ì3 s.heap t xs.toArray)(hs:s.heap.IsSliceOf sl .none .none (.int (-1) u))
  (h:Q (.ref s.heap.objs.size) { s with heap:=s.heap.push { cls:=.type "tuple",data:=.seq xs.reverse.toArray } }) (hz:xs.length<=sizeLine):Ñ (Ø P w) A (Ï5 (.ref t) (.ref sl)) Q E s:=by
 obtain⟨os,hos,hcs,hds⟩:=id hs;have hTs:s.TypeIs (.ref sl) "slice":=⟨os,hos,hcs⟩;unfold Ï5;try with_reducible refine Ã1 ?_
 first | refine À (Ç ?_) | skip
 refine À (Ú3 ht.typeIs (-0) ?_);refine À (Á8 (name:=ç "__getitem__") ht.typeIs ò (Â8 ò ht.typeIs entry_tuple_getitem ?_ (Ù1 _ _)))
 show Ñ _ _ (tupleItemsOf (.ref t) >>= _) _ _ s;refine À (tupleItemsOf_ ht (À (Æ5 hTs ?_)));rw[if_pos (-0)]
 have app:∀ {R:Int × Int × Nat->Å->Prop},R ((xs.length:Int) - 1,-1,xs.length) s->Ñ (Ø P w) A.in1 (Ð2 (.ref sl) (pure (xs.toArray.size:Int))) R E s:=λ{R} q=>by
  unfold Ð2 sliceFields;refine À (À (À7 hos hds (x:=.none) rfl (À (À7 hos hds (x:=.none) rfl (À (À7 hos hds (x:=.int (-1) u) rfl (Ç ?_)))))));refine À (slicePart_int ?_);show Ñ _ _ (if ((-1:Int) == 0)=true then _ else _) _ _ s;rw[if_neg (-0)]
  refine À (Ô9 (À (Ô9 (À (Ç ?_)))));have e1:Ë1 none none (-1) (xs.toArray.size:Int)=((xs.length:Int) - 1,-1):=by simp[Ë1]
  have e2:Ç7 ((xs.length:Int) - 1) (-1) (-1)=xs.length:=by
   unfold Ç7;rw[if_neg (-0)]
   split
   ·simp only[Int.neg_neg,Int.ediv_one];omega
   ·omega
  show Ñ _ _ (match Ë1 none none (-1) (xs.toArray.size:Int) with | (lo,hi)=>pure (lo,(-1:Int),Ç7 lo hi (-1))) _ _ s
  rw[e1];show Ñ _ _ (pure ((xs.length:Int) - 1,(-1:Int),Ç7 ((xs.length:Int) - 1) (-1) (-1))) _ _ s;rw[e2];exact Ç q
 refine À (app ?_);show Ñ _ _ (if (((xs.length:Int) - 1) == 0&&(-1:Int) == 1&&xs.length == xs.toArray.size)=true then _ else _) _ _ s;rw[if_neg (by simp)]
 have pick:((í xs.length).filterMap λ(k:Nat)=>xs.toArray[((xs.length:Int) - 1 + (k:Int) * -1).toNat]?)=xs.reverse:=by
  refine List.ext_getElem? λi=>?_;have hall:∀ k∈í xs.length,xs.toArray[((xs.length:Int) - 1 + (k:Int) * -1).toNat]?=some (xs.getD (xs.length - 1 - k) á):=λk hk=>by
   have hk':k < xs.length:=by simpa using hk
   have e:((xs.length:Int) - 1 + (k:Int) * -1).toNat=xs.length - 1 - k:=by omega
   rw[e];have:xs.length - 1 - k < xs.length:=by omega
   simp[this]
  rw[s00 _ _ _ hall,Þ];by_cases hi:i < xs.length
  ·have h2:xs.length - 1 - i < xs.length:=by omega
   rw[Ó4 hi,List.getElem?_reverse hi];simp[h2]
  ·rw[Þ7 (by simpa using hi),Þ7 (by simpa using hi)];rfl
 rw[pick];have hsz:sizeOk (.seq xs.reverse.toArray):=by show xs.reverse.toArray.size<=sizeLine;rw[Ó,Ó3];exact hz
 first
  |exact À (m:=Å4 _) (î (Ç ⟨_,rfl,Ç h⟩) hsz)
  |exact À (m:=Å4 _) (î (À (Ç (Ç ⟨_,rfl,Ç h⟩))) hsz)
  |exact À (À (m:=Å4 _) (î (Ç (Ç ⟨_,rfl,Ç h⟩)) hsz))
  |exact À (À (m:=Å4 _) (î (Ç ⟨_,rfl,Ç h⟩) hsz))
end
end HT
namespace L2
open PySem PySem.Spec PyProof.Rows
theorem a10.sqT{K:Â}{H H':Hp}{a:Æ}{xs:List V}(e:a10 H H')(h:SqT K H a xs):SqT K H' a xs:=by
 rcases h with (h | ⟨o,h⟩) | h
 ·exact .inl (.inl (e _ _ h))
 ·exact .inl (.inr ⟨o,e _ _ h⟩)
 ·exact .inr h
theorem a10.new(o:HO)(n:H p=none):a10 H (upd H p o):=λb u e=>by rw[a40 (b00 e n)];exact e
def z71(K:Â)(H:Hp)(zs:List V)(Q:VK):Prop:=∀ p H',a10 H H'->SqT K H' p zs->Q (.ref p) H'
section
variable {X:Cx}{pins:List (Æ × Obj)}{σ:St}{H:Hp}{s:Å}
theorem z71.here(q:z71 X.K H zs Q)(I:Inv X pins σ H s)(h:SqT X.K H a zs):EP X pins σ Q (.ref a) s:=⟨.ref a,H,I,rfl,q a H (a10.refl H) h⟩
theorem z71.new(q:z71 X.K H zs Q)(I:Inv X pins σ H s)(r:Vals zs us)(hz:zs.length<=sizeLine) :
  EP X pins σ Q (.ref s.heap.objs.size) { s with heap:=s.heap.push { cls:=.type "tuple",data:=.seq us.toArray } } :=
 have hn:H s.heap.objs.size=none:=I.hok.fresh (É _)
 ⟨.ref s.heap.objs.size,_,I.laid (t':=s.toks) (o:=.tup zs) (λb ob q=>Ã _ q) (É _) ⟨hz,_,r,Ì3.new _ _⟩,rfl,q _ _ (a10.new _ hn) (SqT.of b10)⟩
end
section
variable {X:Cx}
def E62(K:Â):R2:=λx y H Q=>∃ a b ns ms,x=.ref a/\y=.ref b/\SqT K H a (ns.map V.int)/\SqT K H b (ms.map V.int)/\Q (.bl (HT.leB ns ms)) H
theorem a42(hu:X.A.units < Â4):OpR X (ö .LtE) (E62 X.K):=by
 intro pins s σ H x y v u Q I rx ry h;obtain⟨a,b,ns,ms,rfl,rfl,ha,hb,q⟩:=h;cases rx;cases ry;obtain⟨v1,r1,p1,_⟩:=I.tuple ha;obtain⟨v2,r2,p2,_⟩:=I.tuple hb;exact HT.d01 p1 p2 (show É4 v1.toArray.toList ns from intsAre_of r1) (show É4 v2.toArray.toList ms from intsAre_of r2) hu ⟨.bl (HT.leB ns ms),H,I,rfl,q⟩
def p22(K:Â):R2:=λx y H Q=>∃ a b xs ys,x=.ref a/\y=.ref b/\SqT K H a xs/\SqT K H b ys/\xs.length + ys.length<=sizeLine/\z71 K H (xs++ys) Q
theorem M71:OpR X (Â6 .Add) (p22 X.K):=by
 intro pins s σ H x y v u Q I rx ry h;obtain⟨a,b,xs,ys,rfl,rfl,ha,hb,hz,q⟩:=h;cases rx;cases ry;obtain⟨v1,r1,p1,_⟩:=I.tuple ha;obtain⟨v2,r2,p2,_⟩:=I.tuple hb;by_cases hx:xs=[]
 ·subst hx;have e:=r1.F00.mpr rfl;subst e;exact HT.M61 p1 p2 (q.here I hb)
 ·refine HT.K71 p1 p2 (λz=>hx (r1.F00.mp z)) (λz=>?_) (λz=>q.new I (r1.append r2) (by rw[À5];exact hz)) (by rw[← r1.length,← r2.length];exact hz)
  have e:=r2.F00.mp z;subst e;rw[append_nil] at q;exact q.here I ha
def p32(K:Â):R2:=λx y H Q=>∃ a k xs,x=.ref a/\y=.int k/\SqT K H a xs/\0<=k/\k < 1000000/\k.toNat * xs.length<=sizeLine/\z71 K H (ë k.toNat xs).flatten Q
theorem M81:OpR X (Â6 .Mult) (p32 X.K):=by
 intro pins s σ H x y v u Q I rx ry h;obtain⟨a,k,xs,rfl,rfl,ha,hk,hk2,hz,q⟩:=h;cases rx;obtain⟨t,rfl⟩:=ry;obtain⟨v1,r1,p1,_⟩:=I.tuple ha;have hl:=r1.length;obtain⟨⟨cls,dd,data,sl⟩,ho,hc,n,hd⟩:=id p1;simp only at hc hd;subst hc hd;have h1:¬ (decide (k < -(2 ^ 63)) || decide (k ≥ 2 ^ 63))=true:=by simp;omega
 refine wpAny_binaryOp_repeat_ref (T:="tuple") (U:="int") (-0) ⟨_,ho,rfl⟩ (λs'=>Ø7 s' k t) HT.x20 F.fills_int_mul Ñ8 HT.M30 F.slot_int_index.lookup
  (Ç1 Ñ8 (Ø7 s k t) F.entry_int_rmul (F.args_int_rmul_2 _ _) (HT.d11 k t a v1.toArray n dd sl) ⟨ho,rfl,⟨_,ho,rfl⟩,?_⟩)
 by_cases hx:v1=[]∨k=1
 ·refine Ç1 Û4 ⟨_,ho,rfl⟩ Ù8 (Ö5 _ _) (HT.z51 a v1.toArray k t n dd sl h1 (by rcases hx with hx | hx <;> simp[hx])) ⟨ho,?_⟩
  have e2:(ë k.toNat xs).flatten=xs:=by
   rcases hx with hx | hx
   ·rw[r1.F00.mp hx];simp
   ·rw[hx];simp
  rw[e2] at q;exact q.here I ha
 ·have hv:v1≠[]:=λz=>hx (.inl z);have h2:¬ (v1.toArray.isEmpty || k == 1)=true:=by simp[hv];exact λz=>hx (.inr z)
  by_cases hk0:k=0
  ·refine Ç1 Û4 ⟨_,ho,rfl⟩ Ù8 (Ö5 _ _) (HT.mul_zero a v1.toArray k t n dd sl h1 h2 (by simp[hk0])) ⟨ho,?_⟩
   rw[show(ë k.toNat xs).flatten=[] by rw[hk0];rfl] at q
   exact q.new I .nil (Å2 _)
  have hpos:0 < v1.length:=List.length_pos_iff.mpr hv;have hfl:foldl (λx y=>x++y) #[] (ë k.toNat v1.toArray)=(ë k.toNat v1).flatten.toArray:=by
   have:=foldl_rep v1 k.toNat [];rw[Ð4] at this;exact this
  have hsz:v1.length * k.toNat<=sizeLine:=by rw[← hl,Ö2];exact hz
  have hcast:((v1.toArray.size:Nat):Int) * k=((v1.length * k.toNat:Nat):Int):=by rw[Ó,Int.natCast_mul,Int.toNat_of_nonneg ∅]
  have hline:(sizeLine:Nat)<=(2 ^ 63 - 1) / 8:=by decide
  refine Ç1 Û4 ⟨_,ho,rfl⟩ Ù8 (Ö5 _ _) (HT.z61 a v1.toArray k t n dd sl h1 h2 (by simp[hv];omega) (by rw[hcast];generalize v1.length * k.toNat=m at hsz;omega) (by rw[hcast];generalize v1.length * k.toNat=m at hsz;unfold tupleTooMany;intro z;have z':=of_decide_eq_true z;omega)
   (by rw[hfl,Ó,len_rep,Ö2];exact hsz)) ⟨ho,?_⟩
  rw[hfl];exact q.new I (r1.rep k.toNat) (by rw[len_rep];exact hz)
def E72(K:Â):V->Option Int->Option Int->Hp->VK->Prop:=λx lo hi H Q=>∃ a xs,x=.ref a/\SqT K H a xs/\z71 K H (x41 xs lo hi) Q
theorem M91:SlR X (E72 X.K):=by
 intro pins s σ H x v vl vu lo hi sl Q I rx hs pl pu h;obtain⟨a,xs,rfl,hx,q⟩:=h;cases rx;obtain⟨its,r,ht,hz⟩:=I.tuple hx;have hlen:its.toArray.size=xs.length:=by rw[Ó];exact r.length.symm
 refine⟨"tuple",_,ò.lookup,ht.typeIs,?_⟩;by_cases hw:HT.sIx xs.length 0 lo=0/\HT.sIx xs.length xs.length hi=xs.length
 ·refine HT.q00 ht hs pl pu (by rw[hlen];exact hw) ?_
  have e:x41 xs lo hi=xs:=by unfold x41;rw[hw.1,hw.2];simp
  rw[e] at q;exact q.here I hx
 ·refine HT.u10 ht hs pl pu (by rw[hlen];exact hw) ?_ (by rw[hlen];exact hz)
  rw[hlen];exact q.new I ((r.drop (HT.sIx xs.length 0 lo)).take (HT.sIx xs.length xs.length hi - HT.sIx xs.length 0 lo)) (Ô (z00 xs lo hi) hz)
def k62(K:Â)(te ts:TE):TE:=λσ H Q=>te σ H λx H1=>ts σ H1 λy H2=>y=.int (-1)/\((∃ a xs,x=.ref a/\SqT K H2 a xs/\z71 K H2 xs.reverse Q)∨∃ a xs,x=.ref a/\SqL K H2 a xs/\∀ p,H2 p=none->Q (.ref p) (upd H2 p (.lst xs.reverse)))
theorem y22{e st:Î}{te ts:TE}{p2 pos:Pos}(he:PE X e te)(hst:PE X st ts):PE X (.Subscript e (.Slice none none (some st) p2) pos) (k62 X.K te ts):=by
 intro pins s σ H Q I h;refine Subscript_ (thn (he pins s σ H _ I h) λv s1 ⟨x,H1,I1,r1,q1⟩=>?_);refine wpAny_Slice ?_;rw[evalPart_none];refine Ç (Ç ?_);rw[evalPart_some];refine thn (hst pins s1 σ H1 _ I1 q1) λw' s2 ⟨y,H2,I2,r2,q2⟩=>?_;obtain⟨rfl,q2⟩:=q2;obtain⟨t,rfl⟩:=r2;have I4:Inv X pins σ H2 { s2 with heap:=s2.heap.push { cls:=.type "slice",data:=.fields #[.none,.none,.int (-1) t] } }:=I2.kept (t':=s2.toks) λb ob q=>Ã _ q;show Ñ (Ø X.prog X.w) X.A (subscriptTail e (.Slice none none (some st) p2) v (.ref s2.heap.objs.size)) (EP X pins σ Q) X.xe { s2 with heap:=s2.heap.push { cls:=.type "slice",data:=.fields #[.none,.none,.int (-1) t] } };rcases q2 with ⟨a,xs,rfl,hq,q⟩ | ⟨a,xs,rfl,hq,q⟩
 ·cases r1;obtain⟨its,r,ht,hz⟩:=I4.tuple hq;exact tail_any (ops:=[.ref a,.ref s2.heap.objs.size]) ht.typeIs ò.lookup (HT.u20 ht (Ï0 ..) (q.new I4 r.reverse (by rw[Ó3];exact hz)) (by rw[← r.length];exact hz)) (by with_unfolding_all rfl)
 ·cases r1;obtain⟨its,r,ht,hz⟩:=I4.list hq;have hlen:=r.length;refine tail_any (ops:=[.ref a,.ref s2.heap.objs.size]) ht.isList.typeIs slot_list_getitem.lookup (wpAny_getItem_list_slice ht.isList (Ï0 ..) .none .none (.int (-1) t) (by simp) ?_ (by rw[Ó] <;> omega)) (by with_unfolding_all rfl)
  rw[PySem.W.krv_pick];refine⟨.ref _,_,I4.laid (t':=s2.toks) (o:=.lst xs.reverse) (λb ob q=>Ã _ q) (É _) ?_,rfl,q _ (I4.hok.fresh (É _))⟩;exact⟨by rw[Ó3];exact hz,its.reverse,0,r.reverse,Ì _ rfl⟩
theorem y32:OpR X (ö .Is) (λx y H Q=>∃ b c,x=.bl b/\y=.bl c/\Q (.bl (b == c)) H):=by
 intro pins s σ H x y v u Q I rx ry h;obtain⟨b,c,rfl,rfl,q⟩:=h;cases rx;cases ry;exact is_bool (V80 I q rfl)
theorem k01:OpR X (ö .IsNot) (λx y H Q=>∃ b c,x=.bl b/\y=.bl c/\Q (.bl (b != c)) H):=by
 intro pins s σ H x y v u Q I rx ry h;obtain⟨b,c,rfl,rfl,q⟩:=h;cases rx;cases ry;exact isnot_bool (V80 I q rfl)
theorem Inv.big(I:Inv X pins σ H s):Ë7 < s.heap.objs.size:=by
 have h:ô < s.heap.objs.size:=(I.mod.glob.keeps I.bk).lt;exact Nat.lt_trans (-0) h
def p42:TE:=λ_ H Q=>∀ p,H p=none->Q (.ref p) (upd H p (.dK []))
theorem k11:PE X (.Dict [] [] pos) p42:=λpins s σ H Q I h =>
 wpAny_Dict_empty ⟨.ref s.heap.objs.size,_,I.laid (a:=s.heap.objs.size) (o:=.dK []) (t':=s.toks) (λ_ _ q=>Ã _ q) (É _) ⟨Å2 _,beq_eq_false_iff_ne.mpr (À1 (Û I.big)),[],.nil,ï.DictOf.new _⟩,rfl,h _ (I.hok.fresh (É _))⟩
end
end L2
namespace MySort
open PySem PySem.W PyProof.Rows
section
variable {P:â}{w:õ}{A:ü}{E:Ä->Å->Prop}{s:Å}
theorem R70(ho:s.heap.get? l=some o)(hc:o.cls=.type "list"∨o.cls=.type "tuple")(hd:o.data=.seq vs.toArray n)
  (h:Q vs { s with heap:=(s.heap.push (Â5 "list" #[] 0)).update s.heap.objs.size (Á2 (·++vs.toArray)) }) (hz:vs.length<=sizeLine):Ñ (Ø P w) A (collect (.ref l)) Q E s:=by
 unfold collect;refine À (wpAny_runValue (Ç6 entry_proto_collect' ?_));show Ñ _ _ (do again (.builtin "list.__iadd__" ⟨[← newList [],.ref l],[]⟩)) _ _ s;refine À (wpAny_newList (Ç ⟨Code.quiet_builtin _ (by decide +kernel),Ç6 entry_list_iadd' ?_⟩))
 show Ñ _ _ (Ê0 (.ref s.heap.objs.size) (.ref l) (.ref s.heap.objs.size)) _ _ { s with heap:=s.heap.push (Â5 "list" #[] 0) };unfold Ê0;have ho':(s.heap.push (Â5 "list" #[] 0)).get? l=some o:=Ã _ ho;have fin:Ñ (Ø P w) A (do
   let o ← load s.heap.objs.size
   match o.data with
   |.seq xs _=>pure xs.toList
   |_=>unsupported "internal:collect") Q E { s with heap:=(s.heap.push (Â5 "list" #[] 0)).update s.heap.objs.size (Á2 (·++vs.toArray)) }:=by
  refine À (wpAny_load (Ý8 (Ì _ rfl) _) ?_);show Ñ _ _ (pure ((#[]:Array Ä)++vs.toArray).toList) Q E _;rw[show((#[]:Array Ä)++vs.toArray).toList=vs by simp];exact Ç h
 rcases hc with hc | hc
 ·refine À (Æ5 (T:="list") ⟨o,ho',hc⟩ ?_);rw[if_pos (by rw[show(Á0 "list" == Á0 "list")=true by rfl];simp)]
  refine À (Í5 ho' hd (À (Í5 (xs:=#[]) (n:=0) (Ì _ rfl) rfl ?_)));rw[if_neg (by simp)]
  exact À (Ø2 (xs:=#[]) (n:=0) (Ì _ rfl) rfl (Ç fin) (Å2 _) (by show(#[]++vs.toArray).size<=sizeLine + 1;simp only[Array.size_append,Ó,Ä2];omega))
 ·refine À (Æ5 (T:="tuple") ⟨o,ho',hc⟩ ?_);rw[if_pos (by rw[show(Á0 "tuple" == Á0 "tuple")=true by rfl];simp)]
  refine À (Í5 ho' hd (À (Í5 (xs:=#[]) (n:=0) (Ì _ rfl) rfl ?_)));rw[if_neg (by simp)]
  exact À (Ø2 (xs:=#[]) (n:=0) (Ì _ rfl) rfl (Ç fin) (Å2 _) (by show(#[]++vs.toArray).size<=sizeLine + 1;simp only[Array.size_append,Ó,Ä2];omega))
theorem k21(ho:s.heap.get? l=some o)(hc:o.cls=.type "list"∨o.cls=.type "tuple")(hd:o.data=.seq vs.toArray n)
  (hk:∀ h',j71 s.heap h'->Z91 P w A.in1.in1 { s with heap:=h' } vs Pr kd)
  (h:∀ (p:List Nat) (h':ï) (c:Nat),Pr p->(∀ b o,s.heap.get? b=some o->h'.get? b=some o)->h'.get? (s.heap.objs.size + 1)=some (Â5 "list" (p.map λi=>vs.getD i á).toArray c)->Q (.ref (s.heap.objs.size + 1)) { s with heap:=h' }) :
  Ñ (Ø P w) A (call (.builtin "sorted") [.ref l]) Q E s:=by
 have h64:=(hk s.heap λ_ _ e _=>e).len;refine Calls.call_function_entry kind_sorted plain_sorted entry_sorted (args_sorted1 _) ?_;unfold Â0.«sorted»;refine À (m:=checkCount "sorted" 1 1 _) (Ç ?_);refine À (R70 ho hc hd ?_ (by rw[À8];omega));refine À (wpAny_newList ?_ (by rw[À8];omega))
 have hsz:((s.heap.push (Â5 "list" #[] 0)).update s.heap.objs.size (Á2 (·++vs.toArray))).objs.size=s.heap.objs.size + 1:=by rw[ï.size_update,size_push']
 have hoL:(((s.heap.push (Â5 "list" #[] 0)).update s.heap.objs.size (Á2 (·++vs.toArray))).push (Â5 "list" vs.toArray 0)).get? (s.heap.objs.size + 1)=some (Â5 "list" vs.toArray 0):=by rw[← hsz];exact Ì _ rfl
 have keep:∀ b o,s.heap.get? b=some o->(((s.heap.push (Â5 "list" #[] 0)).update s.heap.objs.size (Á2 (·++vs.toArray))).push (Â5 "list" vs.toArray 0)).get? b=some o:=λb o q=>by
  have hlt:b < s.heap.objs.size:=Ü q;rw[ï.get?_push_ne _ _ _ (by rw[hsz];exact Û (È6 hlt)),ï.get?_update_ne _ _ _ _ (Û hlt),ï.get?_push_ne _ _ _ (Û hlt)];exact q
 show Ñ _ _ _ _ _ { s with heap:=((s.heap.push (Â5 "list" #[] 0)).update s.heap.objs.size (Á2 (·++vs.toArray))).push (Â5 "list" vs.toArray 0) };rw[hsz];refine À (Ã1 (Â8 slot_list_sort ⟨_,hoL,rfl⟩ entry_list_sort (y51 hoL (λh' kp=>hk h' λb o e hc=>kp b o (keep b o e) hc) λp h' c hp kp hD=>⟨_,rfl,Ç ⟨_,rfl,h p h' c hp (λb o e=>kp b o (Û (È6 (Ü e))) (keep b o e)) hD⟩⟩) (args_list_sort _)))
end
end MySort
namespace L2
open PySem PySem.Spec PyProof.Rows
open MySort (sortedBy)
section
variable {X:Cx}
def N01(X:Cx)(H:Hp)(xs:List V)(Pr:List Nat->Prop):Prop:=∀ (pins:List (Æ × Obj)) (σ:St) (s:Å) (us:List Ä),Inv X pins σ H s->Vals xs us->∃ kd,∀ h',MySort.j71 s.heap h'->MySort.Z91 X.prog X.w X.A.in1.in1 { s with heap:=h' } us Pr kd
theorem w10:f00 X (.builtin "sorted") (λargs H Q=>∃ a xs,∃ Pr:List Nat->Prop,args=[.ref a]/\(SqL X.K H a xs∨SqT X.K H a xs)/\N01 X H xs Pr/\(∀ p,Pr p->∀ i∈p,i < xs.length)/\∀ p l,Pr p->H l=none->Q (.ref l) (upd H l (.lst (p.map λi=>xs.getD i .non)))):=by
 intro pins s σ H args us Q I r h;obtain⟨a,xs,Pr,rfl,hq,hk,hpr,q⟩:=h;obtain⟨u,rfl,rx⟩:=vals1 r;cases rx;have go:∀ (its:List Ä) (o:Obj) (n:Nat),Vals xs its->s.heap.get? a=some o->(o.cls=.type "list"∨o.cls=.type "tuple")->o.data=.seq its.toArray n->Ñ (Ø X.prog X.w) X.A (call (.builtin "sorted") [.ref a]) (EP X pins σ Q) X.xe s:=λits o n rv ho hc hd=>by
  obtain⟨kd,kw⟩:=hk pins σ s its I rv;have k0:=kw s.heap λ_ _ e _=>e;refine MySort.k21 ho hc hd kw λp h' c hp kp hD=>?_;have hn:H (s.heap.objs.size + 1)=none:=I.hok.fresh (È2 _ 1);have hlen:(p.map λi=>xs.getD i .non).length<=sizeLine:=by rw[È,k0.all p hp,À8];have:=k0.len;omega
  have rv':Vals (p.map λi=>xs.getD i .non) (p.map λi=>its.getD i á):=by
   have hall:=hpr p hp;clear hp hD hlen
   induction p with
   |nil=>exact .nil
   |cons i r ih =>
    refine .cons ?_ (ih λj hj=>hall j (Í _ hj));have hi:=hall i Ë;obtain⟨u,hu,ru⟩:=rv.get (i:=i) (x:=xs[i]) (by simp[hi])
    have e1:xs.getD i V.non=xs[i]:=by simp[hi]
    have e2:its.getD i á=u:=by rw[Ù,hu];rfl
    show RelV (xs.getD i V.non) (its.getD i á);rw[e1,e2];exact ru
  exact⟨.ref (s.heap.objs.size + 1),_,I.laid (t':=s.toks) kp (È2 _ 1) (show h40 X.prog X.w _ h' _ (.lst _) from⟨hlen,_,c,rv',hD⟩),rfl,q p _ hp hn⟩
 rcases hq with hq | hq
 ·obtain⟨its,rv,pl,_⟩:=I.list hq;obtain⟨o,ho,hc,n,hd⟩:=pl.isList;exact go its o n rv ho (.inl hc) hd
 ·obtain⟨its,rv,⟨o,ho,hc,n,hd⟩,_⟩:=I.tuple hq;exact go its o n rv ho (.inr hc) hd
end
inductive D where
 |non | bl (b:Bool) | int (i:Int) | str (x:Str) | tup (ds:List D) | lst (ds:List D) | dct
def D.ty:D->String
 |.non=>"NoneType"|.bl _=>"bool"|.int _=>"int"|.str _=>"str"|.tup _=>"tuple"|.lst _=>"list"|.dct=>"dict"
mutual
def Has(K:Â)(H:Hp):D->V->Prop
 |.non,v=>v=.non|.bl b,v=>v=.bl b|.int i,v=>v=.int i|.str x,v=>v=.str x|.tup ds,v=>∃ a xs,v=.ref a/\SqT K H a xs/\D00 K H ds xs|.lst ds,v=>∃ a xs,v=.ref a/\SqL K H a xs/\D00 K H ds xs|.dct,v=>∃ a kvs,v=.ref a/\H a=some (.dK kvs)
def D00(K:Â)(H:Hp):List D->List V->Prop
 |[],xs=>xs=[]|d::ds,xs=>∃ x r,xs=x::r/\Has K H d x/\D00 K H ds r
end
def isB(T C:String):Bool:=T == C || (T == "bool"&&C == "int")
theorem N11(K:Â)(d:D):∀ C∈["int","bool","tuple","list","str"],PySem.W.kitOne K (.type d.ty) (.type C)=some (isB d.ty C):=by
 intro C hC;simp only[Ã4,Â1,or_false] at hC;rcases hC with rfl | rfl | rfl | rfl | rfl <;> cases d <;> first | rfl | kernel_rfl | decide +kernel
section
variable {X:Cx}
theorem z81:f00 X (.builtin "isinstance") (λxs H Q=>∃ d x C,xs=[x,.ty C]/\Has X.K H d x/\C∈["int","bool","tuple","list","str"]/\Q (.bl (isB d.ty C)) H):=by
 intro pins s σ H xs us Q I r h;obtain⟨d,x,C,rfl,hd,hC,q⟩:=h;obtain⟨u,w',rfl,rx,rt⟩:=vals2 r;cases (show w'=Á0 C from rt);have e:=N11 X.K d C hC;have fin:∀ tk,EP X pins σ Q (.bool (isB d.ty C)) { s with toks:=tk }:=λtk=>⟨.bl _,H,I.tok tk,rfl,q⟩;cases d with
 |non=>unfold Has at hd;subst hd;cases rx;exact Ó7 kitx_none I.kIn È9 e (λz=>nomatch z) fin
 |bl b=>unfold Has at hd;subst hd;cases rx;exact Ó7 kitx_bool I.kIn È9 e (λz=>nomatch z) fin
 |int i=>unfold Has at hd;subst hd;obtain⟨t,rfl⟩:=rx;exact Ó7 kitx_int I.kIn È9 e (λz=>nomatch z) fin
 |str y=>unfold Has at hd;subst hd;obtain⟨t,rfl⟩:=rx;exact Ó7 kitx_str I.kIn È9 e (λz=>nomatch z) fin
 |tup ds =>
  unfold Has at hd;obtain⟨a,ys,rfl,hq,_⟩:=hd;cases rx;obtain⟨its,_,⟨o,h1,h2,_⟩,_⟩:=I.tuple hq;exact Ó7 kitx_tuple I.kIn ⟨o,h1,h2⟩ e (λz=>nomatch z) fin
 |lst ds =>
  unfold Has at hd;obtain⟨a,ys,rfl,hq,_⟩:=hd;cases rx;obtain⟨its,_,pl,_⟩:=I.list hq;obtain⟨o,h1,h2,_⟩:=pl.isList;exact Ó7 kitx_list I.kIn ⟨o,h1,h2⟩ e (λz=>nomatch z) fin
 |dct =>
  unfold Has at hd;obtain⟨a,kvs,rfl,hq⟩:=hd;cases rx;obtain⟨_,_,vs,_,p⟩:=(show h40 X.prog X.w H s.heap a (.dK kvs) from I.hok a _ hq);obtain⟨o,es,ep,h1,h2,_⟩:=p;exact Ó7 kitx_dict I.kIn ⟨o,h1,h2.1⟩ e (λz=>nomatch z) fin
end
def hide(st:Æ)(H:Hp):Hp:=λb=>if b=st then none else H b
theorem d50(st:Æ)(H:Hp):a10 (hide st H) H:=λb o e=>by
 unfold hide at e;split at e
 ·cases e
 ·exact e
theorem z60{st:Æ}{H H':Hp}(e:∀ b o,b≠st->H b=some o->H' b=some o):a10 (hide st H) (hide st H'):=λb o h=>by
 unfold hide at h ⊢;by_cases q:b=st
 ·rw[if_pos q] at h;cases h
 ·rw[if_neg q] at h ⊢;exact e b o q h
theorem l00{st b:Æ}{H:Hp}{o:HO}(h:H b=some o)(n:b≠st):hide st H b=some o:=by
 unfold hide;rw[if_neg n];exact h
end L2
namespace L2
open PySem PySem.Spec PyProof.Rows
theorem z91{σ:St}{H:Hp}{R:Bool->Hp->Prop}(h:R true H):c51 σ H R:=h
section
variable {X:Cx}
theorem a52(K:Â)(d:D):kitAny K (.type d.ty) [.type "tuple",.type "list"]=some (isB d.ty "tuple" || isB d.ty "list"):=by
 have e1:=N11 K d "tuple" (by simp)
 have e2:=N11 K d "list" (by simp)
 unfold kitAny;rw[e1];cases isB d.ty "tuple" with
 |true=>rfl
 |false =>
  show kitAny K (.type d.ty) [.type "list"]=_;unfold kitAny;rw[e2];cases isB d.ty "list" <;> rfl
theorem k31:f00 X (.builtin "isinstance") (λxs H Q=>∃ d x a,xs=[x,.ref a]/\Has X.K H d x/\SqT X.K H a [.ty "tuple",.ty "list"]/\Q (.bl (isB d.ty "tuple" || isB d.ty "list")) H):=by
 intro pins s σ H xs us Q I r h;obtain⟨d,x,a,rfl,hd,hq,q⟩:=h;obtain⟨u,w',rfl,rx,rt⟩:=vals2 r;cases (show w'=þ a from rt);obtain⟨its,rv,⟨⟨cls,dd,data,sl⟩,ho,hc,n,hdt⟩,_⟩:=I.tuple hq;simp only at hc hdt;subst hc hdt;have eits:its=[.type "tuple",.type "list"]:=by
  cases rv with
  |cons p r=>cases r with
   |cons p2 r2=>cases r2;rw[show _=Á0 "tuple" from p,show _=Á0 "list" from p2]
 subst eits;have e:=a52 X.K d;have fin:∀ tk,EP X pins σ Q (.bool (isB d.ty "tuple" || isB d.ty "list")) { s with toks:=tk }:=λtk=>⟨.bl _,H,I.tok tk,rfl,q⟩;cases d with
 |non=>unfold Has at hd;subst hd;cases rx;exact Ó6 kitx_none I.kIn È9 ho e (λz=>nomatch z) fin
 |bl b=>unfold Has at hd;subst hd;cases rx;exact Ó6 kitx_bool I.kIn È9 ho e (λz=>nomatch z) fin
 |int i=>unfold Has at hd;subst hd;obtain⟨t,rfl⟩:=rx;exact Ó6 kitx_int I.kIn È9 ho e (λz=>nomatch z) fin
 |str y=>unfold Has at hd;subst hd;obtain⟨t,rfl⟩:=rx;exact Ó6 kitx_str I.kIn È9 ho e (λz=>nomatch z) fin
 |tup ds =>
  unfold Has at hd;obtain⟨b,ys,rfl,hq',_⟩:=hd;cases rx;obtain⟨_,_,⟨o,h1,h2,_⟩,_⟩:=I.tuple hq';exact Ó6 kitx_tuple I.kIn ⟨o,h1,h2⟩ ho e (λz=>nomatch z) fin
 |lst ds =>
  unfold Has at hd;obtain⟨b,ys,rfl,hq',_⟩:=hd;cases rx;obtain⟨_,_,pl,_⟩:=I.list hq';obtain⟨o,h1,h2,_⟩:=pl.isList;exact Ó6 kitx_list I.kIn ⟨o,h1,h2⟩ ho e (λz=>nomatch z) fin
 |dct =>
  unfold Has at hd;obtain⟨b,kvs,rfl,hq'⟩:=hd;cases rx;obtain⟨_,_,vs,_,p⟩:=(show h40 X.prog X.w H s.heap b (.dK kvs) from I.hok b _ hq');obtain⟨o,es,ep,h1,h2,_⟩:=p;exact Ó6 kitx_dict I.kIn ⟨o,h1,h2.1⟩ ho e (λz=>nomatch z) fin
end
open PySem PySem.Spec PyProof.Rows PySem.SeqAt
theorem G20(l b:Æ)(es:Array Ý2)(n:Nat)(it:Array Ä)(n2:Nat)(dd dd2:Option Æ)(sl sl2:Array (Option Ä)) :
  Meets (Â0.«dict.__ne__» ⟨[.ref l,.ref b],[]⟩) (λ_ R s=>s.heap.get? l=some { cls:=.type "dict",dict:=dd,data:=.dict es n,slots:=sl }/\s.heap.get? b=some { cls:=.type "tuple",dict:=dd2,data:=.seq it n2,slots:=sl2 }/\R (.ok (.ret .notImplemented)) s) :=
 .of_wp λprog w A R s h=>by
  obtain⟨hp,g,d,tk,os⟩:=s;obtain⟨hl,hb,h⟩:=h;have f1:=F.sub_tuple_dict
  wp_walk using Ã3 hl,Ã3 hb
  exact⟨_,rfl,h⟩
theorem G30(l b:Æ)(es:Array Ý2)(n:Nat)(it:Array Ä)(n2:Nat)(dd dd2:Option Æ)(sl sl2:Array (Option Ä)) :
  Meets (Â0.«tuple.__ne__» ⟨[.ref b,.ref l],[]⟩) (λ_ R s=>s.heap.get? l=some { cls:=.type "dict",dict:=dd,data:=.dict es n,slots:=sl }/\s.heap.get? b=some { cls:=.type "tuple",dict:=dd2,data:=.seq it n2,slots:=sl2 }/\R (.ok (.ret .notImplemented)) s) :=
 .of_wp λprog w A R s h=>by
  obtain⟨hp,g,d,tk,os⟩:=s;obtain⟨hl,hb,h⟩:=h;have f1:=F.sub_dict_tuple
  wp_walk using Ã3 hl,Ã3 hb
  exact⟨_,rfl,h⟩
section
variable {X:Cx}
theorem N21(hu:X.A.units + 64 < Â4):OpR X (ö .NotEq) (λx y H Q=>∃ a b kvs xs,x=.ref a/\y=.ref b/\H a=some (.dK kvs)/\SqT X.K H b xs/\Q (.bl true) H):=by
 intro pins s σ H x y v u Q I rx ry h;obtain⟨a,b,kvs,xs,rfl,rfl,ha,hb,q⟩:=h;cases rx;cases ry;obtain⟨v2,r2,⟨o2,h2,c2,n2,d2⟩,_⟩:=I.tuple hb;obtain⟨_,_,vs,_,p⟩:=(show h40 X.prog X.w H s.heap a (.dK kvs) from I.hok a _ ha);obtain⟨o1,es,n1,h1,c1,d1,_⟩:=p;have c1:=c1.1;obtain⟨cls,dd,data,sl⟩:=o1;obtain⟨cls2,dd2,data2,sl2⟩:=o2;simp only at c1 d1 c2 d2;subst c1 d1 c2 d2;have hne:a≠b:=λe=>by
  subst e;rw[h1] at h2;simp at h2
 have hu':X.A.units < cLine:=by omega
 refine rc_ne_decline_or (k:=false) ⟨_,h1,rfl⟩ ⟨_,h2,rfl⟩ (-0) F.sub_tuple_dict F.slot_dict_ne F.slot_tuple_ne_refl
  (λ_ hq=>Ç1 F.slot_dict_ne ⟨_,h1,rfl⟩ F.entry_dict_ne (F.args_dict_ne_2 _ _) (G20 a b es n1 v2.toArray n2 dd dd2 sl sl2) ⟨h1,h2,hq⟩)
  (λ_ hq=>Ç1 F.slot_tuple_ne_refl ⟨_,h2,rfl⟩ F.entry_tuple_ne (F.args_tuple_ne_2 _ _) (G30 a b es n1 v2.toArray n2 dd dd2 sl sl2) ⟨h1,h2,hq⟩)
  (λ_ hq=>wpAny_isSame_ref_other hne h1 h2 (by simp) hq) (.inr hu') ⟨.bl true,H,I,rfl,q⟩
end
end L2
namespace L2
open PySem PySem.Spec PyProof.Rows
section
variable {P:â}{w:õ}{A:ü}{E:Ä->Å->Prop}{s:Å}
abbrev eT1(h:ï)(l:Æ):Heap:=h.push { cls:=.type "tuple_iterator",data:=.fields #[.ref l,.int 0 0] }
abbrev eT2(h:ï)(l:Æ):Heap:=(eT1 h l).push { cls:=.type "enumerate",data:=.fields #[.none,.bool false,.ref h.objs.size,rawInt 0,.none,.none] }
theorem R80(l:Æ)(xs:Array Ä) :
  Meets (Â0.«enumerate.__new__» ⟨[.type "enumerate",.ref l],[]⟩) (λ_ R s=>s.heap.IsTuple l xs/\R (.ok (.ret (.ref (eT1 s.heap l).objs.size))) { s with heap:=eT2 s.heap l }) :=
 .of_wp λP w A R s h=>by
  obtain⟨hp,g,d,tk,os⟩:=s;obtain⟨hl,h⟩:=h;have hsub:=sub_enumerate;have hL1:Ï9 (Å.heap ⟨hp,g,d,tk,os⟩) l xs:=hl
  wp_walk;refine wpAny_stack_any λq=>Ç ?_;split
  ·rename_i c _ _ _ _ _;cases (c == Á0 "enumerate") <;> (wp_walk using É6 hL1) <;> exact⟨_,rfl,h⟩
  ·wp_walk using É6 hL1
   exact⟨_,rfl,h⟩
theorem d21(hl:s.heap.IsTuple l xs)
  (h:∀ h',IsEnum h' (s.heap.objs.size + 1) s.heap.objs.size 0 .none->h'.IsTupleIter s.heap.objs.size l 0->(∀ c o,s.heap.get? c=some o->h'.get? c=some o)->Q (.ref (s.heap.objs.size + 1)) { s with heap:=h' }) :
  Ñ (Ø P w) A (call (.type "enumerate") [.ref l]) Q E s:=by
 refine callType_new F.called_enumerate (-0) (F.typeCall_enumerate_1 _) (F.newCall_enumerate_1 _) (λobj=>F.args_object_init_2 obj _) F.entry_enumerate_new (R80 l xs) ⟨hl,?_⟩
 have n1:(eT1 s.heap l).objs.size=s.heap.objs.size + 1:=Æ7 ..;have g2:(eT2 s.heap l).get? (eT1 s.heap l).objs.size=some _:=Ì _ rfl;have g1:(eT2 s.heap l).get? s.heap.objs.size=some _:=Ã _ (Ì _ rfl);show _/\_;rw[n1] at g2;rw[n1];exact⟨⟨_,g2,rfl⟩,h _ g2 ⟨_,g1,rfl,rfl⟩ λc o q=>Ã _ (Ã _ q)⟩
theorem k41(hh:A.handled=none){it l:Æ}{xs:Array Ä}(n:l≠it):Draws P w A it [it,l] xs.size (λi x=>xs[i]?=some x) (λi h=>h.IsTupleIter it l i/\h.IsTuple l xs) where
 live:=λi h q=>by obtain⟨⟨o,e,_⟩,_⟩:=q;exact⟨o,e⟩
 frame:=λi h h' q k=>by
  obtain⟨⟨o,e,r⟩,⟨o',e',r'⟩⟩:=q;exact⟨⟨o,k it (by simp) _ e,r⟩,⟨o',k l (by simp) _ e',r'⟩⟩
 item:=λi s Q E hi q k=>n60 q.1 q.2 (x:=xs[i]) (by simp[hi]) λh' h1 h2=>k _ h' s.toks (by simp[hi]) ⟨h1,q.2.extBut h2.extBut n⟩ h2
 done:=λs Q E q k=>k70 hh q.1 q.2 (by simp) λh' e h1 h2=>k h' e h1 h2
end
theorem H21{P:â}{w:õ}{A:ü}(b:Bool)(hh:A.handled=none){it l:Æ}{xs:Array Ä}(n:l≠it):Draws P w A it [it,l] xs.size (λi x=>xs[i]?=some x) (λi h=>M00 b h it l i/\x91 b h l xs):=match b with
 |true=>Draws.list hh it l n xs|false=>k41 hh n
def Ite(b:Bool)(K:Â)(a:Æ):It :=
 ⟨λi H=>∃ xs x,SqB b K H a xs/\xs[i]?=some x,
  λi H v H'=>∃ T,v=.ref T/\H T=none/\∀ xs x,SqB b K H a xs->xs[i]?=some x->H'=upd H T (.tup [.int i,x]),
  λi H=>∃ xs,SqB b K H a xs/\xs.length=i⟩
theorem k51{P:â}{w:õ}{K:Â}{es:List Î}{ek:Nat}{ep:Pos}{a e it:Æ}{b:Bool}(h1:e≠it)(h2:a≠e)(h3:a≠it) :
  Turn P w K (.Tuple es ek ep) (Ite b K a) [e,it] e (λi h=>(∃ old,IsEnum h e it i old)/\M00 b h it a i) where
 mem:=by simp
 obj:=λi h st c hc=>by
  obtain⟨⟨old,he⟩,st⟩:=st;obtain⟨o1,g1,d1,_⟩:=st.obj;simp only[Ã4,Â1,or_false] at hc;rcases hc with rfl | rfl
  ·exact⟨_,he,λv e=>by cases e⟩
  ·exact⟨_,g1,d1⟩
 keep:=λi h h' st k=>by
  obtain⟨⟨old,he⟩,st⟩:=st;obtain⟨o1,g1,_,r1⟩:=st.obj;exact⟨⟨old,k e (by simp) _ he⟩,r1 h' (k it (by simp) _ g1)⟩
 item:=by
  intro X hP hw hK hc i pins s σ H E I hf st hg;subst hP hw hK;obtain⟨xs,x,hq,hx⟩:=hg;obtain⟨v1,rv,p1,_,z1⟩:=I.y01 hq;obtain⟨u,hu,ru⟩:=rv.get hx;obtain⟨⟨old,he⟩,hi⟩:=st;have hl:i < v1.toArray.size:=by simpa using (ä.mp hu).1
  refine wpAny_pyNext_enum_itemD (H21 (A:=X.A.in1) b (by exact I.ok.hd hc) h3) he ⟨hi,p1⟩ hl h1 (by simp[h1,h2.symm]) λy g1 tk hy ge gs gT sz kp=>⟨_,rfl,?_⟩
  have hy':v1[i]?=some y:=by simpa using hy
  rw[hu] at hy';cases hy';refine wpAny_letOwnedTupleGo_enum (s:={ s with heap:=g1,toks:=tk + 1 }) ge λg2 ge2 sb=>?_;have hT:H s.heap.objs.size=none:=I.hok.fresh (É _);have kall:∀ c o,c ∉ [e,it]->s.heap.get? c=some o->g2.get? c=some o:=λc o hc q=>by
   simp only[Ã4,Â1,or_false,not_or] at hc;exact sb.extBut _ _ hc.1 (kp c o hc.1 hc.2 q)
  have I2:Inv X pins σ H { s with heap:=g2,toks:=tk + 1 }:=I.F40 (t':=tk + 1) hf kall;have fT:V60 X pins H s.heap.objs.size:=I.b81 (É _) hT;have gT2:g2.get? s.heap.objs.size=some { cls:=.type "tuple",data:=.seq #[.int i tk,u] }:=sb.extBut _ _ (λq=>À4 _ (by have:=Ü he;rw[← q] at this;exact this)) gT
  have I3:Inv X pins σ (upd H s.heap.objs.size (.tup [.int i,x])) { s with heap:=g2,toks:=tk + 1 }:=I2.x61 fT I.sz (I2.hok.G81 hT (its:=[.int i tk,u]) (.cons ⟨_,rfl⟩ (.cons ru .nil)) (by show 2<=sizeLine;rw[À8];decide) ⟨_,gT2,rfl,_,rfl⟩)
  refine⟨.ref s.heap.objs.size,_,I3,rfl,⟨_,rfl,hT,λxs' x' e1 e2=>?_⟩,⟨⟨_,ge2⟩,by obtain⟨o,q1,_,q2⟩:=gs.1.obj;exact q2 _ (sb.extBut _ _ h1.symm q1)⟩,λc hc=>?_⟩
  ·rw[z1 _ e1] at e2;rw[hx] at e2;cases e2;rfl
  ·rw[a40]
   ·exact(hf c hc).1
   ·intro q;simp only[Ã4,Â1,or_false] at hc;rcases hc with hc | hc
    ·exact À4 _ (by have:=Ü he;rw[← hc,q] at this;exact this)
    ·obtain⟨o,ho,_⟩:=M00.obj hi;exact À4 _ (by have:=Ü ho;rw[← hc,q] at this;exact this)
 done:=by
  intro X hP hw hK hc i pins s σ H E I hf st hg;subst hP hw hK;obtain⟨xs,hq,rfl⟩:=hg;obtain⟨v1,rv,p1,_,z1⟩:=I.y01 hq;obtain⟨⟨old,he⟩,hi⟩:=st;refine wpAny_pyNext_enum_endD (H21 (A:=X.A.in1) (xs:=v1.toArray) b (by exact I.ok.hd hc) h3) he ⟨by rw[show v1.toArray.size=xs.length by simpa using rv.length.symm];exact hi,p1⟩ λg kp=>⟨rfl,I.F40 (t':=s.toks) hf λc o hcn q=>?_⟩
  simp only[Ã4,Â1,or_false,not_or] at hcn;exact kp c o hcn.2 q
 self:=λ_ _ _ _ _ st h=>by obtain⟨⟨_,he⟩,_⟩:=st;exact wpAny_pyIter_enum he h
def p52(K:Â)(ta:TA):TI:=λσ H R=>ta σ H λvs H1=>∃ b a,vs=[.ref a]/\(∃ xs,SqB b K H1 a xs)/\R (Ite b K a) H1
theorem d31(hl:x91 b s.heap l xs)
  (h:∀ h',IsEnum h' (s.heap.objs.size + 1) s.heap.objs.size 0 .none->M00 b h' s.heap.objs.size l 0->(∀ c o,s.heap.get? c=some o->h'.get? c=some o)->Q (.ref (s.heap.objs.size + 1)) { s with heap:=h' }) :
  Ñ (Ø P w) A (call (.type "enumerate") [.ref l]) Q E s:=match b,hl,h with
 |true,hl,h=>call_enumerate_list hl λh' a b _ c=>h h' a b c|false,hl,h=>d21 hl h
theorem k61:ì "enumerate"=some (.type "enumerate"):=by decide +kernel
theorem N31{X:Cx}{a:Î}{es:List Î}{ek:Nat}{ep:Pos}{ta:TA}{p pos:Pos}(hg:Gl X "enumerate")(hm:X.mg "enumerate"=none)(ha:PA X [a] ta)(hs:û [a] X.env=[(false,eval a X.env)]:=by rfl) :
  PI X (.Tuple es ek ep) (.Call (.Name "enumerate" p) [a] [] pos) (p52 X.K ta):=by
 intro pins s σ H R I h;refine Call_ (r40 I hg hm k61 (À0 (thn (ha pos pins s σ H _ I h) λus s1 ⟨vs,H1,I1,r1,q1⟩=>?_) (by rw[hs];rfl) (by rfl)))
 obtain⟨b,l1,e,⟨xs,hq1⟩,q⟩:=q1;subst e;obtain⟨u,rfl,r⟩:=vals1 r1;cases r;obtain⟨v1,rv1,p1,a1,_⟩:=I1.y01 hq1;refine d31 p1 λh' he h1 kp=>wpAny_pyIter_enum (s:={ s1 with heap:=h' }) he ?_;refine⟨_,[s1.heap.objs.size + 1,s1.heap.objs.size],_,_,H1,rfl,I1.kept (t':=s1.toks) kp,k51 (Nat.succ_ne_self _) (Û (È6 a1)) (Û a1),⟨⟨_,he⟩,h1⟩,λc hc=>?_,q⟩;have hc':s1.heap.objs.size<=c:=by
  simp only[Ã4,Â1,or_false] at hc;rcases hc with rfl | rfl
  ·exact È2 _ 1
  ·exact É _
 exact I1.b81 hc' (I1.hok.fresh hc')
end L2
namespace HT
open PySem PySem.W PyProof.Rows
set_option maxRecDepth 100000
section
variable {P:â}{w:õ}{A:ü}{E:Ä->Å->Prop}{s:Å}
theorem G40{a b c:Int}{n:Nat}(hh:A.handled=none)(hr:Ò2 s.heap r a b c t u v)(hs:Î7 a b c=true)(hn:Â2 a b c=n)(hl:n<=2 ^ 24)
  (hQ:∀ (h':ï) (tk:Nat) (acc:Array Ä),(∀ b o,s.heap.get? b=some o->h'.get? b=some o)->s.heap.objs.size<=h'.objs.size->ItemsOf (λi v=>∃ t,v=.int (a + i * c) t) acc n->Q acc.toList { s with heap:=h',toks:=tk }):Ñ (Ø P w) A (collect (.ref r)) Q E s:=by
 unfold collect;refine À (wpAny_runValue (Ç6 PySem.F.entry_proto_collect ?_));rw[Ç3 PySem.F.plain_proto_collect _];show Ñ _ A.in1 (newList [] >>= λl=>again (.builtin "list.__iadd__" ⟨[l,.ref r],[]⟩)) _ _ s;refine À (î (Ç ⟨Ø1 Û8 _,Ç6 PySem.F.entry_list_iadd ?_⟩));rw[Ç3 Û8 _];show Ñ _ A.in1 (Ê0 (.ref s.heap.objs.size) (.ref r) (.ref s.heap.objs.size)) _ _ { s with heap:=s.heap.push (Â5 "list" #[] 0) };have hS:(s.heap.push (Â5 "list" #[] 0)).get? s.heap.objs.size=some { cls:=.type "list",data:=.seq #[] 0 }:=Ì _ rfl;refine Ä6 (wpAny_extend_range (A:=A) (s:={ s with heap:=s.heap.push (Â5 "list" #[] 0) }) (R:=λx s'=>x=.ok (.ret (.ref s.heap.objs.size))/\∃ h' tk acc c',s'={ s with heap:=h',toks:=tk }/\(∀ b o,s.heap.get? b=some o->h'.get? b=some o)/\h'.get? s.heap.objs.size=some { cls:=.type "list",dict:=none,data:=.seq acc c',slots:=#[] }/\ItemsOf (λi v=>∃ t,v=.int (a + i * c) t) acc n) hh (Ã _ hr) hs hn hl _ (.ref s.heap.objs.size) 0 hS λh' tk acc c' hk hS' hi=>⟨rfl,h',tk,acc,c',rfl,λb o e=>hk b o (Û (Ü e)) (Ã _ e),hS',hi⟩) (λfin s' h=>?_) λe s' h=>?_
 ·have go:∀ s',(∃ h' tk acc c',s'={ s with heap:=h',toks:=tk }/\(∀ b o,s.heap.get? b=some o->h'.get? b=some o)/\h'.get? s.heap.objs.size=some { cls:=.type "list",dict:=none,data:=.seq acc c',slots:=#[] }/\ItemsOf (λi v=>∃ t,v=.int (a + i * c) t) acc n)->Ñ (Ø P w) A (match þ s.heap.objs.size with
   |þ a=>do
    match (← load a).data with
     |Data.seq xs _=>pure xs.toList|_=>unsupported "internal:collect"
   |_=>unsupported "internal:collect") Q E s':=λs' ⟨h',tk,acc,c',e,hk,hS',hi⟩=>by
   subst e;show Ñ _ A (load s.heap.objs.size >>= _) _ _ _;exact À (wpAny_load hS' (Ç (hQ h' tk acc hk (Ì2 (Ü hS')) hi)))
  cases fin with
  |done f =>
   obtain⟨e,h⟩:=h;cases e;exact go _ h
  |again c'=>exact⟨h.1,Ñ9 h.2 λx s'' hx=>by obtain⟨rfl,hx⟩:=hx;exact go _ hx⟩
 ·exact absurd h.1 (by simp)
open AutoSeq1 (wpAny_loadPart')
theorem z70{a b c:Int}{n:Nat}(hh:A.handled=none)(hr:Ò2 s.heap r a b c t u v)(hs:Î7 a b c=true)(hn:Â2 a b c=n)(hl:n<=200000)
  (hQ:∀ (h':ï) (tk:Nat) (acc:Array Ä),(∀ b o,s.heap.get? b=some o->h'.get? b=some o)->s.heap.objs.size<=h'.objs.size->ItemsOf (λi v=>∃ t,v=.int (a + i * c) t) acc n->Q (.ref h'.objs.size) { s with heap:=h'.push { cls:=.type "tuple",data:=.seq acc },toks:=tk }) :
  Ï6 (Ø P w) A (.call (.builtin "tuple.__new__") ⟨[.type "tuple",.ref r],[]⟩) (wants Q E) s:=by
 refine codeAny_of_tree ?_;show Ñ _ A.in1 (do checkBuiltinCall "tuple.__new__" ⟨[.type "tuple",.ref r],[]⟩;again (.builtin "tuple.__new__" ⟨[.type "tuple",.ref r],[]⟩)) _ _ s;refine À (Ý3 (PySem.F.newCall_tuple_1 _) (Ç ⟨Ø1 Û7 _,Ç6 PySem.F.entry_tuple_new ?_⟩));rw[Ç3 Û7 _];have k1:=sub_tuple_self;have k2:=init_tuple_lookup;have k3:=madeHere_tuple;have k4:s.TypeIs (.ref r) "range":=⟨_,hr,rfl⟩
 wp_walk using Æ5 k4,G40 (n:=n) (show A.in1.handled=none from hh) hr hs hn ∅
 intro h' tk acc hk hz hi;show Ñ _ _ (Å4 acc.toList.toArray >>= λv=>ret v) _ _ _;unfold Å4;rw[Í2];refine À (î (Ç (hQ h' tk acc hk hz hi)) (by show acc.size<=_;rw[hi.1,À8];omega))
theorem tuple_range{a b c:Int}{n:Nat}(hh:A.handled=none)(hr:Ò2 s.heap r a b c t u v)(hs:Î7 a b c=true)(hn:Â2 a b c=n)(hl:n<=200000)
  (hQ:∀ (h':ï) (tk:Nat) (acc:Array Ä),(∀ b o,s.heap.get? b=some o->h'.get? b=some o)->s.heap.objs.size<=h'.objs.size->ItemsOf (λi v=>∃ t,v=.int (a + i * c) t) acc n->Q (.ref h'.objs.size) { s with heap:=h'.push { cls:=.type "tuple",data:=.seq acc },toks:=tk }):Ñ (Ø P w) A (call (.type "tuple") [.ref r]) Q E s:=by
 refine callType_codes (Q₁:=λobj s₁=>s₁.TypeIs obj "tuple"/\Q obj s₁) Ð1 (PySem.F.typeCall_tuple_1 _) PySem.F.entry_object_init (z70 hh hr hs hn hl λh' tk acc hk hz hi=>⟨⟨_,Ì _ rfl,rfl⟩,hQ h' tk acc hk hz hi⟩) λobj s₁ h₁=>?_;exact⟨h₁.1,PySem.F.args_object_init_2 obj _,object_init_meets Ð1.init.lookup Ð1.made (-0) P w A.in1 _ s₁ ⟨h₁.1,rfl,h₁.2⟩⟩
end
end HT
namespace L2
open PySem PySem.Spec PyProof.Rows
theorem h40.there(x:h40 P w H h a o):∃ u,h.get? a=some u:=by
 cases o with
 |lst xs=>obtain⟨_,_,_,_,e⟩:=x;exact⟨_,e⟩
 |tup xs=>obtain⟨_,_,_,o,e,_⟩:=x;exact⟨_,e⟩
 |dK kvs=>obtain⟨_,_,_,_,o,_,_,e,_⟩:=x;exact⟨_,e⟩
 |dT kvs=>obtain⟨_,_,_,_,o,_,_,e,_⟩:=x;exact⟨_,e⟩
 |set S n=>obtain⟨o,_,_,_,e,_⟩:=x;exact⟨_,e⟩
 |ins C dx fs=>obtain⟨_,_,_,e,_⟩:=x;exact⟨_,e⟩
 |own y=>obtain⟨_,e⟩:=x;exact⟨_,e⟩
 |xd fs=>obtain⟨_,⟨_,_,_,e,_⟩,_⟩:=x;exact⟨_,e⟩
 |rng lo hi=>obtain⟨_,_,_,e⟩:=x;exact⟨_,e⟩
 |frz ob u=>obtain⟨e,_⟩:=x;exact⟨_,e⟩
 |tbl ps=>exact⟨_,(show h.get? a=some _ from x)⟩|met f y=>exact⟨_,(show h.get? a=some _ from x)⟩|ext φ=>obtain⟨_,⟨_,e⟩,_⟩:=x;exact⟨_,e⟩
def InB(B:ï)(fs:List Æ)(H':Hp)(h h':ï):Prop:=∀ b u,h'.get? b=some u->b ∉ fs->((∃ o,h.get? b=some o)∨H' b≠none)->B.get? b=some u
def CX1(P:â)(w:õ):CXT:=λouter H s E e s'=>∃ (a:Æ) (cls a0:Ä) (H':Hp) (B:ï),e=.ref a/\s'.os=s.os/\Ò3 s'.gens/\Un (frs outer) [] H H' s.heap s'.heap/\HOk P w H' s'.heap /\
 ï.FlyingW B outer a cls a0 s'.heap/\H' a=none/\InB B (frs outer) H' s.heap s'.heap/\E cls (some a) H'
section
variable {X:Cx}{pins:List (Æ × Obj)}{σ:St}{H H':Hp}{s s':Å}{B h'':ï}{a:Æ}{cls a0:Ä}{E:XK}
theorem k71(hS:X.stack=X.env::X.outer)(hx:X.ex=[])(hf:X.env.frame=some X.env.locals)(I:Inv X pins σ H s)(os:s'.os=s.os)(bare:Ò3 s'.gens)(un:Un (frs X.stack) [] H H' s.heap s'.heap)(hok:HOk X.prog X.w H' s'.heap)
  (bB:InB B (frs X.stack) H' s.heap s'.heap) (na:H' a=none) (fl:ï.FlyingW B X.outer a cls a0 h'') (sm:s'.heap.UpToSlots h'') (he:E cls (some a) H'):CX1 X.prog X.w X.outer X.H₀ X.s₀ E (.ref a) { s' with heap:=h'' }:=by
 have hfs:frs X.stack=X.env.locals::frs X.outer:=by rw[hS];unfold frs;rw[Á3,hf]
 have U1:=I.base;rw[hx] at U1;have U:Un (frs X.stack) [] X.H₀ H' X.s₀.heap s'.heap:=(U1.mono (λb hb=>by rw[hfs];exact Í _ hb) λb hb=>hb).trans un
 have nL:∀ b o,X.s₀.heap.get? b=some o->b ∉ frs X.outer->b ∉ frs X.stack:=λb o e hn hm=>by
  rw[hfs] at hm;rcases å.mp hm with z | z
  ·exact absurd (Ü e) (by rw[z];exact Nat.not_lt.mpr I.ok.above)
  ·exact hn z
 have frN:∀ b∈frs X.stack,H' b=none:=λb hb=>by
  obtain⟨_,o,ho,_⟩:=I.stack.mem hb;exact un.free b o ho (I.Q40 b hb) (by simp)
 have old:∀ b o,X.s₀.heap.get? b=some o->b ∉ frs X.outer->∃ u,s'.heap.get? b=some u/\B.get? b=some u:=λb o e hn=>by
  obtain⟨o1,e1⟩:=U1.there b o e (by simp)
  obtain⟨o2,e2⟩:=un.there b o1 e1 (by simp)
  exact⟨o2,e2,bB b o2 e2 (nL b o e hn) (.inl ⟨o1,e1⟩)⟩
 have trk:∀ b,H' b≠none->∃ u,s'.heap.get? b=some u/\B.get? b=some u:=λb hb=>by
  obtain⟨o,e⟩:=Ú0.mp hb;obtain⟨u,eu⟩:=(hok b o e).there;exact⟨u,eu,bB b u eu (λhm=>by rw[frN b hm] at e;cases e) (.inr hb)⟩
 refine⟨a,cls,a0,H',B,rfl,os.trans I.os,bare,⟨λb o e n hb _=>?_,λb o e n hb _=>?_,λb o e n hb=>U.free b o e n hb,λb o e _=>?_,U.tups,U.frzs,U.tbls⟩,λc o e=>?_,fl,na,λb u e hn hor=>?_,he⟩
 ·obtain⟨u,e1,e2⟩:=old b o e hb;have e3:=U.keep b o e n (nL b o e hb) (by simp)
  rw[e1] at e3;cases e3;exact fl.1 b _ e2
 ·obtain⟨sl,e1⟩:=U.slot b o e n (by rw[hfs];exact Í _ hb) (by simp)
  obtain⟨_,o',ho',hd⟩:=I.ok.v81.mem hb;rw[e] at ho';cases ho';obtain⟨sl',e2⟩:=sm b _ e1 hd;exact⟨sl',e2⟩
 ·by_cases hb:b∈frs X.outer
  ·obtain⟨_,o',ho',_⟩:=fl.2.2.1.mem hb;exact⟨o',ho'⟩
  ·obtain⟨u,_,e2⟩:=old b o e hb;exact⟨u,fl.1 b _ e2⟩
 ·refine(hok c o e).w31 (λb u hb q=>?_) (λ_ q=>q) λ_ _ q=>q;have hbn:H' b≠none:=by
   rcases hb with rfl | hb
   ·rw[e];exact λz=>nomatch z
   ·rw[hb];exact λz=>nomatch z
  obtain⟨u',e1,e2⟩:=trk b hbn;rw[q] at e1;cases e1;exact fl.1 b _ e2
 ·have:∃ u',B.get? b=some u':=by
   rcases hor with ⟨o,ho⟩ | hor
   ·obtain⟨u',_,e2⟩:=old b o ho hn;exact⟨u',e2⟩
   ·obtain⟨u',_,e2⟩:=trk b hor;exact⟨u',e2⟩
  obtain⟨u',e2⟩:=this;have e3:=fl.1 b _ e2;rw[e] at e3;cases e3;exact e2
end
section
variable {P:â}{w:õ}{K:Â}{mg:Str->Option Ä}{base:ï}{N:List Str}{qual:Str}{scope:À3}{f:Æ}{cd:Ä}{A:ü}{outer:List Env}{s₀:Å}{H₀:Hp}{E:XK}
theorem k81(I:Inv (L10 (CX1 P w) P w K mg base N qual scope f cd A outer s₀ H₀ E) pins σ H s)(hx:ï.MadeExcOf s.heap h' e cls vs)(he:E cls (some e) H) :
  (L10 (CX1 P w) P w K mg base N qual scope f cd A outer s₀ H₀ E).xe (.ref e) { s with heap:=h' }:=by
 have hin:∀ env∈(L10 (CX1 P w) P w K mg base N qual scope f cd A outer s₀ H₀ E).stack,∀ a,env.frame=some a->a∈frs (L10 (CX1 P w) P w K mg base N qual scope f cd A outer s₀ H₀ E).stack:=λenv he a ha=>Ô2.mpr ⟨env,he,ha⟩;have kB:(hideAll s.heap (frs (L10 (CX1 P w) P w K mg base N qual scope f cd A outer s₀ H₀ E).stack)).StaysIn s.heap:=λb o q=>of_hideAll _ q;show Ñ _ _ (leaving _ _) _ _ _;refine wpAny_leaves_madeW (base:=hideAll s.heap (frs (L10 (CX1 P w) P w K mg base N qual scope f cd A outer s₀ H₀ E).stack)) (h:=s.heap) I.ok.frames rfl kB (PySem.W.funFrames_hide I.stack hin) hx λh'' t fl _ _ sm=>?_;have na:H e=none:=by
  cases z:H e with
  |none=>rfl|some o=>obtain⟨u,eu⟩:=(I.hok e o z).there;rw[hx.new] at eu;cases eu
 refine k71 (X:=L10 (CX1 P w) P w K mg base N qual scope f cd A outer s₀ H₀ E) (s':={ s with heap:=h' }) rfl rfl rfl I rfl I.bare (Un.kept hx.keeps) (I.hok.kept hx.keeps) (λb u q hn hor=>?_) na fl sm he;have:∃ o,s.heap.get? b=some o:=by
  rcases hor with hor | hor
  ·exact hor
  ·obtain⟨o,z⟩:=Ú0.mp hor;exact(I.hok b o z).there
 obtain⟨o,ho⟩:=this;have:=hx.keeps b o ho;have q':h'.get? b=some u:=q;rw[this] at q';cases q';exact hideAll_get _ ho hn
theorem p62:Passes (CX1 P w) (L10 (CX1 P w) P w K mg base N qual scope f cd A outer s₀ H₀ E) E:=by
 intro pins σ H s e s' I h;obtain⟨a,cls,a0,H',B,rfl,os,bare,un,hok,fl,na,bB,he⟩:=h;show Ñ _ _ (leaving _ _) _ _ _;refine wpAny_leaves_onW I.ok.frames rfl fl λh'' fl' sm=>?_;exact k71 (X:=L10 (CX1 P w) P w K mg base N qual scope f cd A outer s₀ H₀ E) (s':=s') rfl rfl rfl I os bare un hok bB na fl' sm he
end
theorem N41{K:Â}{h:ï}{C:Æ}{bmB:List Ä}{newId:String}(KX:K.In h)(hq:Ì7 K C bmB newId=true) :
  ∃ bm N nm q bs hdct sn sub ab col dd k0 k1 k2 k3 k5 mN,h.get? C=some (excClassObj nm q C N bs bm hdct sn sub ab col dd k0 k1 k2 k3 k5 newId)/\h.Ns N mN/\mN "__init__"=none/\OwnTail h bmB bm:=by
 unfold Ì7 at hq;split at hq
 case h_2=>cases hq
 case h_1 dd cd sl ho =>
  split at hq
  case h_2=>cases hq
  case h_1 C' bm k0 k1 k2 k3 n k5 hm hs =>
   simp only[Á,beq_iff_eq,ú] at hq;obtain⟨⟨⟨⟨⟨z1,z2⟩,hdel⟩,ht⟩,hok⟩,hni⟩:=hq;subst z1 z2;cases cd with
   |mk nm bs mro ns qn hd sn sub ab col del =>
    dsimp only at hm hdel hok hni;subst hm hdel;have esl:sl=#[k0,k1,k2,k3,some (.builtin n),k5]:=by cases sl with | mk l=>simp only at hs;rw[hs]
    subst esl;refine⟨bm,ns,nm,qn,bs,hd,sn,sub,ab,col,dd,k0,k1,k2,k3,k5,h.nsMap ns,KX _ _ ho,?_,PySem.W.nsMap_none_of_in KX hok hni,PySem.W.tail_of_in KX ht⟩;exact .of_isNs (PySem.W.isNs_of_in KX hok)
def G50(X:Cx)(E:XK):Prop:=∀ (pins:List (Æ × Obj)) (σ:St) (H:Hp) (s:Å) (h':ï) (e:Æ) (cls:Ä) (vs:List Ä),Inv X pins σ H s->ï.MadeExcOf s.heap h' e cls vs->E cls (some e) H->X.xe (.ref e) { s with heap:=h' }
theorem k91{P:â}{w:õ}{K:Â}{mg:Str->Option Ä}{base:ï}{N:List Str}{qual:Str}{scope:À3}{f:Æ}{cd:Ä}{A:ü}{outer:List Env}{s₀:Å}{H₀:Hp}{E:XK} :
  G50 (L10 (CX1 P w) P w K mg base N qual scope f cd A outer s₀ H₀ E) E:=λ_ _ _ _ _ _ _ _ I hx he=>k81 I hx he
def a62(E:XK)(C:Æ)(t:TA):TS:=λ_ σ H=>t σ H λvs H1=>vs.length<=sizeLine/\∀ e,H1 e=none->E (.ref C) (some e) H1
section
variable {X:Cx}{x:Str}{C:Æ}{E:XK}{e₀:Î}{rest:List Î}{t:TA}{np cpos pos:Pos}
theorem A01(hE:G50 X E)(hc:X.calm=true)(hg:Gl X x)(hm:X.mg x=some (.ref C))(hq:Ì7 X.K C [.type "ValueError",.type "Exception",.type "BaseException",.type "object"] "ValueError.__new__"=true)(ha:PA X (e₀::rest) t)
  (hdb:(x == ("__debug__":Str))=false:=by decide) (he:û (e₀::rest) X.env=(false,eval e₀ X.env)::û rest X.env:=by rfl) (hpl:(Ò0 cpos (û rest X.env)).any (·.1)=false:=by rfl) :
  PS X (.Raise (some (.Call (.Name x np) (e₀::rest) [] cpos)) none pos) (a62 E C t):=by
 intro pins s σ H D I h;obtain⟨bm,N,nm,q,bs,hdct,sn,sub,ab,col,dd,k0,k1,k2,k3,k5,mN,hC,hN,hni,T⟩:=N41 I.ok.mod.kin hq;refine wpAny_Raise_call_subT (C:=C) (nm:=nm) (q:=q) (N:=N) (bs:=bs) (bm:=bm) (hdct:=hdct) (sn:=sn) (sub:=sub) (ab:=ab) (col:=col) (dd:=dd) (k0:=k0) (k1:=k1) (k2:=k2) (k3:=k3) (k5:=k5)
  Ù3 (mN:=mN) (T.hasType Ù3.hasBase) (I.ok.hd hc) (by rw[he];exact hpl) hni (Q50 I hg hm ⟨rfl,?_⟩ hdb)
 have k:=ha cpos pins s σ H _ I h;rw[he] at k ⊢;refine Þ8 (thn k λus s2 ⟨vs,H2,I2,r,z,q⟩=>⟨rfl,by show us.length<=_;rw[← r.length];exact z,I2.bk _ _ hC,hN.keeps I2.bk,T.keeps I2.bk,λh' e hx=>?_⟩)
 refine hE pins σ H2 s2 h' e _ us I2 hx (q e ?_);cases z:H2 e with
 |none=>rfl|some o=>obtain⟨u,eu⟩:=(I2.hok e o z).there;rw[hx.new] at eu;cases eu
end
open PySem PySem.Spec PyProof.Rows PySem.W PySem.Builtin PySem.Builtin.ObjectAttr PySem.Builtin.Getset_descriptor
end L2
namespace L2
open PySem PySem.Spec PyProof.Rows
def recAt(c:Æ)(qual:Str):ï->Prop:=λh=>h.CodeRec (.ref c) qual
def Tab(H:Hp)(P:Æ)(qual:Str):Prop:=∃ ps:Array Ä,H P=some (.tbl ps)/\TriplesOk ps.toList/\∀ pos c,codeAmong pos ps.toList=some c->∃ c',c=.ref c'/\H c'=some (.ext (recAt c' qual))
def BMain(mg:Str->Option Ä)(h:ï):Prop:=∃ bm ob,mg "__builtins__"=some (.ref bm)/\bm≠builtinsNs/\h.get? bm=some ob/\ob.cls=.type "module"/\ob.dict=some builtinsNs/\ob.data=.plain
theorem a72{P:â}{w:õ}{X:Cx}:Passes (CX1 P w) X (λ_ _ _=>False):=λ_ _ _ _ _ _ _ h=>by
 obtain⟨_,_,_,_,_,_,_,_,_,_,_,_,_,e⟩:=h;exact e.elim
theorem Tab.same{H H':Hp}{P:Æ}{q:Str}(t:Tab H P q)(s:a10 H H'):Tab H' P q:=by
 obtain⟨ps,e,tr,h⟩:=t;refine⟨ps,s _ _ e,tr,λpos c hc=>?_⟩;obtain⟨c',e1,e2⟩:=h pos c hc;exact⟨c',e1,s _ _ e2⟩
abbrev Ke:=List Int × Æ × Ä
def E82(x:Ke):DictEntry:=⟨reduceHash (Â0.Tuple.tupleHashOf (x.1.map hashInt)),.ref x.2.1,x.2.2⟩
def R90(d:Æ)(xs:List Ke)(h:ï):Prop:=∃ o es ep,h.get? d=some o/\o.ExactDict/\o.data=.dict es ep/\es.toList=xs.map E82/\(xs.map (·.1)).Nodup
def Q00(K:Â)(H:Hp)(d:Æ)(kss:List (List Int)):Prop:=∃ xs:List Ke,H d=some (.ext (R90 d xs))/\(d == Ë7)=false/\(∀ x∈xs,SqT K H x.2.1 (x.1.map V.int))/\∀ ks,ks∈xs.map (·.1)↔ks∈kss
theorem Q00.same{K:Â}{H H':Hp}{d:Æ}{kss:List (List Int)}(h:Q00 K H d kss)(e:∀ b o,H b=some o->H' b=some o):Q00 K H' d kss:=by
 obtain⟨xs,h1,h2,h3,h4⟩:=h;exact⟨xs,e _ _ h1,h2,λx hx=>a10.sqT e (h3 x hx),h4⟩
theorem items_int{P:â}{w:õ}:∀ {ks:List Int}{its:List Ä},Vals (ks.map V.int) its->ItemsAre (Ç0 P w) ks its
 |[],_,h=>by cases h;exact .nil
 |k::ks,_,h=>by
  cases h with
  |cons r t =>
   obtain⟨u,rfl⟩:=r;exact .cons (by show Ñ1 k (.int k u)=true;simp[Ñ1]) (items_int t)
section
variable {X:Cx}{pins:List (Æ × Obj)}{σ:St}{H:Hp}{s:Å}
theorem key_is(I:Inv X pins σ H s){b:Æ}{ks:List Int}(h:SqT X.K H b (ks.map V.int)):Ç2 (Ç0 X.prog X.w) s.heap ks b:=by
 obtain⟨its,rv,⟨o,e,c,n,d⟩,_⟩:=I.tuple h;exact⟨o,its.toArray,n,e,c,d,items_int rv⟩
theorem G60:∀ {xs:List Ke}{ks:List Int},(atKey xs ks).isSome=decide (ks∈xs.map (·.1))
 |[],_=>rfl
 |x::r,ks=>by
  have ih:=@G60 r ks;unfold atKey at ih ⊢;rw[Ú1];by_cases h:x.1=ks
  ·simp[h]
  ·have h':¬ ks=x.1:=λz=>h z.symm;simp only[h,decide_false,ih,Ã5,Ã4,h',false_or]
def k82(o:Bool):CmpOp:=match o with
 |true=>.In|false=>.NotIn
def a82(K:Â)(o:Bool):R2:=λx y H Q=>∃ b ks d kss,x=.ref b/\y=.ref d/\SqT K H b (ks.map V.int)/\Q00 K H d kss/\Q (.bl (decide (ks∈kss) == o)) H
theorem l01(o:Bool)(hu:X.A.units + 1 < Â4):OpR X (ö (k82 o)) (a82 X.K o):=by
 intro pins s σ H x y v u Q I rx ry h;obtain⟨b,ks,d,kss,rfl,rfl,hb,⟨xs,h1,h2,h3,h4⟩,q⟩:=h;cases rx;cases ry;obtain⟨⟨ob,es,ep,e1,e2,e3,e4,e5⟩,_,_⟩:=I.hok d _ h1;have ek:decide (ks∈xs.map (·.1))=decide (ks∈kss):=decide_eq_decide.mpr (h4 ks);cases o with
 |true =>
  refine wpAny_in_heap (knd:=Ü5 (Ç0 X.prog X.w)) (Ø8 hu) (key_is I hb) h2 ⟨ob,es,ep,e1,e2,e3,e4,λx hx=>key_is I (h3 x hx),e5⟩ ?_;rw[G60,ek];rw[show(decide (ks∈kss) == true)=decide (ks∈kss) by cases decide (ks∈kss) <;> rfl] at q
  exact⟨.bl _,H,I.tok _,rfl,q⟩
 |false =>
  refine wpAny_notIn_heap (knd:=Ü5 (Ç0 X.prog X.w)) (Ø8 hu) (key_is I hb) h2 ⟨ob,es,ep,e1,e2,e3,e4,λx hx=>key_is I (h3 x hx),e5⟩ ?_;rw[G60,ek];rw[show(decide (ks∈kss) == false)=!decide (ks∈kss) by cases decide (ks∈kss) <;> rfl] at q
  exact⟨.bl _,H,I.tok _,rfl,q⟩
end
theorem z80{xs:List Ke}{k ks:List Int}{a:Æ}{v:Ä}:ks∈(Õ6 xs k a v).map (·.1)↔ks∈xs.map (·.1)∨ks=k:=by
 unfold Õ6;rw[G60];split
 ·rename_i h;have h:=of_decide_eq_true h;have e:(xs.map (putAt k v)).map (·.1)=xs.map (·.1):=by
   rw[æ];exact Ä1 λx _=>by show(putAt k v x).1=x.1;unfold putAt;split <;> rfl
  rw[e];exact⟨.inl,λz=>z.elim id λz=>z ▸ h⟩
 ·simp
theorem D10{xs:List Ke}{k:List Int}{a:Æ}{v:Ä}{x:Ke}(h:x∈Õ6 xs k a v):(∃ y∈xs,y.1=x.1/\y.2.1=x.2.1)∨(x.1=k/\x.2.1=a):=by
 unfold Õ6 at h;split at h
 ·obtain⟨y,hy,rfl⟩:=Ð.mp h;exact .inl ⟨y,hy,by unfold putAt;split <;> rfl,by unfold putAt;split <;> rfl⟩
 ·rcases À2.mp h with h | h
  ·exact .inl ⟨x,h,rfl,rfl⟩
  ·cases Á1.mp h;exact .inr ⟨rfl,rfl⟩
theorem D20{xs:List Ke}{k:List Int}{a:Æ}{v:Ä}:(Õ6 xs k a v).length<=xs.length + 1:=by
 unfold Õ6;split <;> simp
section
variable {P:â}{w:õ}{A:ü}{R:Result->Å->Prop}{s:Å}
theorem d41{x:Str}{p1 p2 px ps:Pos}{k2:Nat}{iter:Î}{sc:À3}{I D a:Æ}{en:Env}{its:Array Ä}{m:Str->Option Ä}{kss:List (List Int)}(hu:A.units < Â4)(hh:A.handled=none)(hI:a≠I)
  (hl:kss.length=its.size) (hz:its.size<=sizeLine) (ka:∀ (i:Nat) (ks:List Int),kss[i]?=some ks->∃ b:Æ,its[i]?=some (þ b)/\b≠I/\b≠D/\b≠en.locals/\Ç2 (Ç0 P w) s.heap ks b)
  (hx:en.kindOf x=some .local) (hk:en.scope.kind=.function) (hd:(x == ("__debug__":Str))=false) (hDC:D≠en.locals) (hDI:D≠I) (hDa:D≠a) (hCI:en.locals≠I) (hCa:en.locals≠a)
  (st:s.heap.IsListIter I a 0/\s.heap.IsList a its) (ac:R90 D [] s.heap) (hn:s.heap.Ns en.locals m)
  (hR:∀ (h':ï) (tk:Nat) m' (xs:List Ke),h'.Ns en.locals m'->R90 D xs h'->(∀ ks,ks∈xs.map (·.1)↔ks∈kss)->(∀ x∈xs,∃ i:Nat,kss[i]?=some x.1/\its[i]?=some (þ x.2.1))->(∀ b o,b≠en.locals->b≠I->b≠D->s.heap.get? b=some o->h'.get? b=some o)->R (.ok .next) { s with heap:=h',toks:=tk }) :
  Ï6 (Ø P w) A (.compLoop (.DictComp (.Name x p1) (.Constant (.bool true) k2 p2) [⟨.Name x px,iter,[],0⟩] sc ps) 0 (.ref I) (.ref D) en) R s:=by
 have W:=Ú8 (prog:=P) (w:=w) hh I a hI its;have keyS:∀ {h':ï}{ks:List Int}{b:Æ},(∀ b o,b≠en.locals->b≠I->b≠D->s.heap.get? b=some o->h'.get? b=some o)->b≠I->b≠D->b≠en.locals->Ç2 (Ç0 P w) s.heap ks b->Ç2 (Ç0 P w) h' ks b:=λk n1 n2 n3 ⟨o,i,n,e,r⟩=>⟨o,i,n,k _ o n3 n1 n2 e,r⟩;refine codeAny_compLoop_testsD (λn s'=>∃ (i:Nat) (h':ï) (tk:Nat) (m':Str->Option Ä) (xs:List Ke),s'={ s with heap:=h',toks:=tk }/\i<=its.size/\n=its.size + 1 - i/\(h'.IsListIter I a i/\h'.IsList a its)/\R90 D xs h'/\h'.Ns en.locals m'/\xs.length<=i/\(∀ ks,ks∈xs.map (·.1)↔ks∈kss.take i) /\
  (∀ x∈xs,∃ i:Nat,kss[i]?=some x.1/\its[i]?=some (þ x.2.1))/\∀ b o,b≠en.locals->b≠I->b≠D->s.heap.get? b=some o->h'.get? b=some o) ?_ (its.size + 1)
  ⟨0,s.heap,s.toks,m,[],rfl,Å2 _,rfl,st,ac,hn,Å2 _,λks=>(by simp),λx hx=>(by simp at hx),λ_ _ _ _ _ e=>e⟩
 rintro n s' ⟨i,h',tk,m',xs,rfl,hi,rfl,st',ac',hn',hxl,hks,had,hkp⟩;by_cases hlt:i < its.size
 ·refine W.item i _ _ _ hlt st' λv h1 tk1 hv st1 k1=>?_;have hv':kss[i]?=some kss[i]:=Ú ∅
  obtain⟨b,hb,bI,bD,bC,isb⟩:=ka i _ hv';have hv0:its[i]?=some v:=hv;rw[hb] at hv0;cases hv0;refine Ú4 (wpAny_storeName_local hx (hn'.at' λo e=>k1 _ o (by simpa using hCI) e) (λh2 hn2 sb2=>?_) (by rw[hk];rfl))
  have k2:∀ b o,b≠en.locals->b≠I->h'.get? b=some o->h2.get? b=some o:=λb o z1 z2 e=>sb2.extBut b o z1 (k1 b o (by simpa using z2) e)
  refine wpAny_tests_nil ?_;rw[if_pos rfl];refine wpAny_Name (Ô8 (v:=.ref b) hk hx hn2 (by simp) ?_) hd
  refine Constant_bool ?_;obtain⟨o,es,ep,e1,e2,e3,e4,e5⟩:=ac';have kall:∀ b o,b≠en.locals->b≠I->b≠D->s.heap.get? b=some o->h2.get? b=some o:=λb o z1 z2 z3 e=>k2 b o z1 z2 (hkp b o z1 z2 z3 e);have isK:∀ x∈xs,Ç2 (Ç0 P w) h2 x.1 x.2.1:=λx hx=>by
   obtain⟨j,q1,q2⟩:=had x hx;obtain⟨b',r1,r2,r3,r4,r5⟩:=ka j _ q1;rw[q2] at r1;cases r1;exact keyS kall r2 r3 r4 r5
  refine wpAny_dictSet_heap (hsz:=by omega) (knd:=Ü5 (Ç0 P w)) hu (keyS kall bI bD bC isb) ⟨o,es,ep,k2 D o hDC hDI e1,e2,e3,e4,isK,e5⟩ λh3 ⟨o3,es3,ep3,f1,f2,f3,f4,_,f6⟩ sb3=>?_
  refine⟨its.size + 1 - (i + 1),by omega,i + 1,h3,_,_,Õ6 xs kss[i] b (.bool true),rfl,hlt,rfl,W.frame _ h2 _ ?_ λc hc o e=>sb3.extBut c o (λz=>?_) e,⟨o3,es3,ep3,f1,f2,f3,f4,f6⟩,hn2.sameBut sb3 (À1 hDC),Ô D20 ∅,λks=>?_,λy hy=>?_,λc o z1 z2 z3 e=>sb3.extBut c o z3 (kall c o z1 z2 z3 e)⟩
  ·exact W.frame _ _ _ st1 λc hc o e=>sb2.extBut c o (λz=>by subst z;rcases å.mp hc with z | z;exact hCI z;exact hCa (by simpa using z)) e
  ·subst z;rcases å.mp hc with z | z
   ·exact hDI z
   ·exact hDa (by simpa using z)
  ·rw[z80,hks,List.take_succ,mem_append,hv'];exact or_congr Iff.rfl (Ë0 (a:=ks) (b:=kss[i])).symm
  ·rcases D10 hy with ⟨u,hu',e6,e7⟩ | ⟨e6,e7⟩
   ·rw[← e6,← e7];exact had u hu'
   ·exact⟨i,by rw[e6];exact hv',by rw[e7];exact hb⟩
 ·have hin:i=its.size:=by omega
  subst hin;refine W.done _ _ _ st' λh1 tk1 k1=>?_;obtain⟨o,es,ep,e1,e2⟩:=ac';exact hR h1 tk1 m' xs (hn'.at' λo e=>k1 _ o (by simpa using hCI) e) ⟨o,es,ep,k1 _ _ (by simpa using hDI) e1,e2⟩ (λks=>by rw[hks,← hl,Ò5]) had λb o z1 z2 z3 e=>k1 b o (by simpa using z2) (hkp b o z1 z2 z3 e)
end
theorem x60{α β:Type}{R:α->β->Prop}:∀ {l:List α}{r:List β}{i:Nat}{b:β},Á7 R l r->r[i]?=some b->∃ a,l[i]?=some a/\R a b
 |_,_,_,_,.nil,e=>by simp at e|_,_,0,_,.cons h _,e=>by cases e;exact⟨_,rfl,h⟩
 |_,_,i + 1,_,.cons _ t,e=>x60 (i:=i) t e
section
variable {X:Cx}
def a92(K:Â)(ti:TE):TE:=λσ H Q=>ti σ H λv H1=>∃ a ys kss,v=.ref a/\SqL K H1 a ys/\Á7 (λy ks=>∃ b,y=.ref b/\SqT K H1 b (ks.map V.int)) ys kss/\∀ d H2,a10 H1 H2->H1 d=none->Q00 K H2 d kss->Q (.ref d) H2
theorem A11{x:Str}{p1 p2 px ps:Pos}{k2:Nat}{iter:Î}{sc:À3}{ti:TE}(hc:X.calm=true)(hu:X.A.units < Â4)(S:z20 X sc [x] [])(hx:sc.names.lookup x=some .local)(hd:(x == ("__debug__":Str))=false)(hi:PE X iter ti)
  (hs:∀ v,Ç8 iter X.env v=pure v):PE X (.DictComp (.Name x p1) (.Constant (.bool true) k2 p2) [⟨.Name x px,iter,[],0⟩] sc ps) (a92 X.K ti):=by
 intro pins s σ H Q I h;obtain⟨cl,hclos,hcl,hcf⟩:=R20 (scope:=sc) (env:=X.env) λy hy hk=>I.ok.has y.1 (S.frees y hy hk);rw[arm_eval_DictComp];refine Ð0 (use:=none) rfl hs hclos S.kind S.locs (thn (hi pins s σ H _ I h) λv s1 h1=>?_);obtain⟨x1,H1,I1,r1,a,ys,kss,rfl,hq,pk,q⟩:=h1;cases r1;obtain⟨its,rv,p,hz⟩:=I1.list hq;have hal:a < s1.heap.objs.size:=by
  obtain⟨_,o,e,_⟩:=p;exact Ü e
 refine Ê4 p.isList (î (wpAny_newFunctionEnv S.nocell (by intro y hy;simp at hy) (λh2 hns sb=>?_) S.kind))
 dsimp only at hns sb ⊢;generalize e0:s1.heap.push { cls:=.type "list_iterator",data:=.fields #[.ref a,.int 0 0] }=g0 at hns sb ⊢;generalize e1:g0.push { cls:=.type "dict",dict:=none,data:=.dict #[] }=g1 at hns sb ⊢;have z0:g0.objs.size=s1.heap.objs.size + 1:=by rw[← e0,Æ7]
 have z1:g1.objs.size=s1.heap.objs.size + 2:=by rw[← e1,Æ7,z0]
 have n01:s1.heap.objs.size≠g0.objs.size:=by omega
 have n02:s1.heap.objs.size≠g1.objs.size:=by omega
 have n12:g0.objs.size≠g1.objs.size:=by omega
 have lw:∀ {b:Æ},b < s1.heap.objs.size->b≠s1.heap.objs.size/\b≠g0.objs.size/\b≠g1.objs.size:=λ{b} hb=>⟨Û hb,Û (Ö hb ∅),Û (Ö hb ∅)⟩
 have old0:∀ b o,g0.get? b=some o->b≠g1.objs.size->h2.get? b=some o:=λb o e n=>sb.extBut b o n (Ã _ (e1 ▸ Ã _ e));have old:∀ b o,s1.heap.get? b=some o->h2.get? b=some o:=λb o e=>old0 b o (e0 ▸ Ã _ e) (lw (Ü e)).2.2;have hit:h2.IsListIter s1.heap.objs.size a 0:=⟨_,old0 _ _ (e0 ▸ Ì _ rfl) n02,rfl,rfl⟩;have hD:R90 g0.objs.size [] h2:=⟨_,#[],_,sb.extBut _ _ n12 (Ã _ (e1 ▸ Ì _ rfl)),⟨rfl,rfl,rfl⟩,rfl,rfl,by simp⟩
 have loop:∀ s3:Å,s3={ s1 with heap:=h2,toks:=s1.toks + ([]:List (Str × Ä)).length }->Ï6 (Ø X.prog X.w) X.A (.compLoop (.DictComp (.Name x p1) (.Constant (.bool true) k2 p2) [⟨.Name x px,iter,[],0⟩] sc ps) 0 (.ref s1.heap.objs.size) (.ref g0.objs.size) (compEnvC sc cl g1.objs.size X.env))
   (compPost (Ø X.prog X.w) X.A X.xe none (EP X pins σ Q) (.ref g0.objs.size) g1.objs.size) s3:=by
  rintro s3 rfl;refine d41 (kss:=kss) (its:=its.toArray) (a:=a) hu (I1.ok.hd hc) (lw hal).1 (by rw[Ó,← rv.length];exact pk.length.symm) (by rw[Ó,← rv.length];exact hz) (λi ks e=>?_) (lookup_relabel_local hx) S.kind hd n12 n01.symm (lw hal).2.1.symm n02.symm (lw hal).2.2.symm
   ⟨hit,p.isList.at λo e=>old _ o e⟩ hD hns λh' tk m' xs hn' kd kk ka kp=>?_
  ·obtain⟨y,hy,b,rfl,hb⟩:=x60 pk e;obtain⟨u,hu1,hu2⟩:=rv.get hy;cases hu2;obtain⟨o,i2,n2,f1,f2⟩:=key_is I1 hb;obtain⟨l1,l2,l3⟩:=lw (Ü f1);exact⟨b,by simpa using hu1,l1,l2,l3,o,i2,n2,old _ _ f1,f2⟩
  ·refine⟨m',hn',λh3 sb3=>?_⟩;obtain⟨o,es,ep,f1,f2⟩:=kd;have kd3:R90 g0.objs.size xs h3:=⟨o,es,ep,sb3.extBut _ _ n12 f1,f2⟩;have kp3:∀ b o,s1.heap.get? b=some o->h3.get? b=some o:=λb o e=>by
    obtain⟨l1,l2,l3⟩:=lw (Ü e);exact sb3.extBut b o l3 (kp b o l3 l1 l2 (old b o e))
   have hDn:H1 g0.objs.size=none:=I1.hok.fresh ∅
   have hst:∀ h1 h2:ï,R90 g0.objs.size xs h1->(∀ o,h1.get? g0.objs.size=some o->h2.get? g0.objs.size=some o)->R90 g0.objs.size xs h2:=λ_ _ ⟨o,es,ep,f1,f2⟩ k=>⟨o,es,ep,k _ f1,f2⟩;refine⟨.ref g0.objs.size,upd H1 g0.objs.size (.ext (R90 g0.objs.size xs)),I1.laid (t':=tk) kp3 ∅ ⟨kd3,⟨o,sb3.extBut _ _ n12 f1⟩,hst⟩,rfl,q _ _ (a10.new _ hDn) hDn ⟨xs,b10,?_,λy hy=>?_,kk⟩⟩
   ·exact beq_eq_false_iff_ne.mpr (lw I1.big).2.1.symm
   ·obtain⟨i,g1',g2⟩:=ka y hy;obtain⟨u,hu0,b,rfl,hb⟩:=x60 pk g1';obtain⟨u',hu1,hu2⟩:=rv.get hu0;cases hu2;have g2':its[i]?=some (.ref y.2.1):=by simpa using g2
    rw[hu1] at g2';cases g2';exact a10.sqT (a10.new _ hDn) hb
 exact codeAny_compStart_dict (loop _ rfl) (wpAny_pyIter_listiter hit (loop _ rfl))
end
def d51(kvs:List (Key × V))(k:Key):Option V:=(kvs.find? λkv=>decide (kv.1=k)).map (·.2)
theorem G70{a k:Key}{v:V}{r:List (Key × V)}:d51 ((a,v)::r) k=if a=k then some v else d51 r k:=by
 unfold d51;rw[Ú1];by_cases h:a=k
 ·simp[h]
 ·simp[h]
theorem H31:∀ {kvs:List (Key × V)}{ws:List (Key × Ä)}{k:Key},KV kvs ws->(∀ v,d51 kvs k=some v->∃ u,Ú5 ws k=some u/\RelV v u)/\(d51 kvs k=none->Ú5 ws k=none)
 |_,_,_,.nil=>⟨λv h=>(by cases h),λ_=>rfl⟩
 |(a,v)::r,(b,u)::q,k,.cons ⟨e,hr⟩ t=>by
  have e:a=b:=e;subst e;have ih:=H31 (k:=k) t;rw[G70];have hv:Ú5 ((a,u)::q) k=if a=k then some u else Ú5 q k:=by
   unfold Ú5;rw[Ú1];by_cases h:a=k
   ·simp[h]
   ·simp[h]
  rw[hv];by_cases h:a=k
  ·rw[if_pos h,if_pos h];exact⟨λw e=>(by cases e;exact⟨u,rfl,hr⟩),λe=>(by cases e)⟩
  ·rw[if_neg h,if_neg h];exact ih
theorem W80{α β:Type}{R:α->β->Prop}:∀ {a:List α}{b:List β}{c:List α}{d:List β},Á7 R a b->Á7 R c d->Á7 R (a++c) (b++d)
 |_,_,_,_,.nil,h=>h|_,_,_,_,.cons r t,h=>.cons r (W80 t h)
theorem stored_new{ws:List (Key × Ä)}{k:Key}{w:Ä}(h:Ú5 ws k=none):stored ws k w=ws++[(k,w)]:=by
 unfold stored;rw[if_neg];intro hh;obtain⟨p,h1,h2⟩:=List.any_eq_true.mp hh;unfold Ú5 at h;rw[Option.map_eq_none_iff,List.find?_eq_none] at h;exact h p h1 h2
section
variable {X:Cx}
def b02:V->List V->Hp->VK->Prop:=λx vs H Q=>∃ d kvs i y,x=.ref d/\vs=[.int i,y]/\H d=some (.dK kvs)/\kvs.length < sizeLine/\(∀ v,d51 kvs (.inl i)=some v->Q v H)/\(d51 kvs (.inl i)=none->Q y (upd H d (.dK (kvs++[(.inl i,y)]))))
theorem N51:MtR X "dict.setdefault" b02:=by
 intro pins s σ H x vs v us Q I rx rv h;obtain⟨d,kvs,i,y,rfl,rfl,hH,hz,q1,q2⟩:=h;cases rx;cases rv with
 |cons ru rv =>
  obtain⟨w,rfl,rw'⟩:=Vals.one rv;obtain⟨t,rfl⟩:=ru;obtain⟨z,hs,ws,kv,dd⟩:kvs.length<=sizeLine/\(d == Ë7)=false/\∃ vs,KV kvs vs/\s.heap.DictOf (g00 X.prog X.w) d vs:=I.hok d _ hH;have hl:ws.length<=sizeLine:=by rw[← Í3 kv];exact z
  obtain⟨v1,v2⟩:=H31 (k:=.inl i) kv;refine call_meetsIn Ö1 dd.typeIs PySem.F.entry_dict_setdefault (PySem.F.args_dict_setdefault_3 _ _ _) (kt_meets_setdefault (g00 X.prog X.w) (k:=.inl i) d (by show Ñ1 i (.int i t)=true;simp[Ñ1]) hs w) ⟨ws,dd,hl,λu hu=>?_,λhn h' dd' sb=>?_⟩
  ·cases e:d51 kvs (.inl i) with
   |none=>rw[v2 e] at hu;cases hu
   |some v =>
    obtain⟨u',h1,h2⟩:=v1 v e;rw[hu] at h1;cases h1;exact⟨v,H,I.tok _,h2,q1 v e⟩
  ·cases e:d51 kvs (.inl i) with
   |some v=>obtain⟨u',h1,_⟩:=v1 v e;rw[hn] at h1;cases h1
   |none =>
    rw[stored_new hn] at dd';have new:h40 X.prog X.w (upd H d (.dK (kvs++[(.inl i,y)]))) h' d (.dK (kvs++[(.inl i,y)])):=⟨by rw[À5];exact hz,hs,ws++[(.inl i,w)],W80 kv (.cons ⟨rfl,rw'⟩ .nil),dd'⟩
    exact⟨y,_,I.write (x:=d) (e:=d) (t':=s.toks + 1) (by rw[hH];trivial) (.inl rfl) (λb u hb e=>(sb.2 b hb).trans e) (by obtain⟨o,_,_,e,_⟩:=dd';exact⟨o,e⟩) new,rw',q2 e⟩
def Itv(d:Æ)(o:Obj)(kvs:List (Key × V)):It :=
 ⟨λi H=>H d=some (.frz o (.dK kvs))/\i < kvs.length,λi H x H'=>H'=H/\∃ k,kvs[i]?=some (k,x),λi H=>H d=some (.frz o (.dK kvs))/\i=kvs.length⟩
theorem W90{α β:Type}{R:α->β->Prop}:∀ {l:List α}{r:List β}{i:Nat}{b:β},Á7 R l r->r[i]?=some b->∃ a,l[i]?=some a/\R a b
 |_,_,_,_,.nil,e=>by simp at e|_,_,0,_,.cons h _,e=>by cases e;exact⟨_,rfl,h⟩
 |_,_,i + 1,_,.cons _ t,e=>W90 (i:=i) t e
theorem H41{pins:List (Æ × Obj)}{σ:St}{H:Hp}{s:Å}{d:Æ}{o:Obj}{kvs:List (Key × V)}{es:Array Ý2}{ep:Nat}(I:Inv X pins σ H s)(h:H d=some (.frz o (.dK kvs)))(ho:o.data=.dict es ep):∃ ws,KV kvs ws/\s.heap.DictAt (knd:=g00 X.prog X.w) d ws ep:=by
 obtain⟨e,_,_,ws,kv,o',es',ep',e1,e2,e3,e4⟩:s.heap.get? d=some o/\kvs.length<=sizeLine/\(d == Ë7)=false/\∃ vs,KV kvs vs/\s.heap.DictOf (g00 X.prog X.w) d vs:=I.hok d _ h;rw[e] at e1;cases e1;rw[ho] at e3;cases e3;exact⟨ws,kv,o,es,e,e2,ho,e4⟩
theorem l11{P:â}{w:õ}{K:Â}{tg:Î}(d it:Æ)(o:Obj){es:Array Ý2}{ep n:Nat}(ho:o.data=.dict es ep)(hne:d≠it)(kvs:List (Key × V))(hn:kvs.length=n):Turn P w K tg (Itv d o kvs) [it] it (λi h=>h.IsValIter it d i n ep) where
 mem:=by simp
 obj:=λi h st b hb=>by
  have e:b=it:=by simpa using hb
  subst e;obtain⟨o,e,c,dd⟩:=st;exact⟨o,e,λv z=>by rw[dd] at z;cases z⟩
 keep:=λi h h' ⟨ob,e,r⟩ k=>⟨ob,k it (by simp) ob e,r⟩
 item:=by
  intro X hP hw hK hc i pins s σ H E I hf st hg;subst hP hw hK;obtain⟨hg1,hg2⟩:=hg;obtain⟨ws,kv,da⟩:=H41 I hg1 ho;obtain⟨f0,f1,f2,f3,f4,f5⟩:=hf it (by simp)
  have hwl:ws.length=n:=by rw[← Í3 kv];exact hn
  subst hwl;have W:=Walks.dictValues (prog:=X.prog) (w:=X.w) (knd:=g00 X.prog X.w) (I.ok.hd hc) it d hne ws ep;refine W.item i s _ _ (by rw[← hn];exact hg2) ⟨st,da⟩ λv h' tk hv st' kk=>?_
  obtain⟨k,hv⟩:=hv;obtain⟨⟨k',x⟩,hx,e1,rx⟩:=W90 kv hv;have I1:Inv X pins σ H { s with heap:=h',toks:=tk }:=I.turned (λb o hb e=>kk b o (by simpa using hb) e) f0 f1 f3 f4 f5
  obtain⟨ob,e,c,dd⟩:=id st'.1;exact⟨v,rfl,w81 (s:={ s with heap:=h',toks:=tk }) e c dd (-0) ⟨x,H,I1,rx,⟨rfl,k',hx⟩,st'.1,λb hb=>(hf b hb).1⟩⟩
 done:=by
  intro X hP hw hK hc i pins s σ H E I hf st hg;subst hP hw hK;obtain⟨hg1,hg2⟩:=hg;obtain⟨ws,kv,da⟩:=H41 I hg1 ho;obtain⟨f0,f1,f2,f3,f4,f5⟩:=hf it (by simp)
  have hwl:ws.length=n:=by rw[← Í3 kv];exact hn
  subst hwl;have W:=Walks.dictValues (prog:=X.prog) (w:=X.w) (knd:=g00 X.prog X.w) (I.ok.hd hc) it d hne ws ep;rw[hg2,hn] at st;exact W.done s _ _ ⟨st,da⟩ λh' tk kk=>⟨rfl,I.turned (λb o hb e=>kk b o (by simpa using hb) e) f0 f1 f3 f4 f5⟩
 self:=λA i s Q E st h=>wpAny_pyIter_valiter st h
def p72:V->List V->Hp->VK->Prop:=λx vs H Q=>∃ d kvs,x=.ref d/\vs=[]/\H d=some (.dK kvs)/\∀ a,H a=none->Q (.ref a) (upd H a (.ext λh=>h.IsValuesView a d))
theorem N61:MtR X "dict.values" p72:=by
 intro pins s σ H x vs v us Q I rx rv h;obtain⟨d,kvs,rfl,rfl,hH,q⟩:=h;cases rx;cases rv;obtain⟨z,hs,ws,kv,dd⟩:kvs.length<=sizeLine/\(d == Ë7)=false/\∃ vs,KV kvs vs/\s.heap.DictOf (g00 X.prog X.w) d vs:=I.hok d _ hH;refine call_meetsIn Û2 dd.typeIs PySem.F.entry_dict_values (PySem.F.args_dict_values_1 _) (meets_dict_values (g00 X.prog X.w) d hs) ⟨⟨ws,dd⟩,?_⟩;have hn:H s.heap.objs.size=none:=I.hok.fresh (É _);refine⟨.ref s.heap.objs.size,_,I.laid (t':=s.toks) (a:=s.heap.objs.size) (o:=.ext λh=>h.IsValuesView s.heap.objs.size d) (λb u e=>Ã _ e) (É _) ⟨⟨_,Ì _ rfl,rfl,rfl⟩,⟨_,Ì _ rfl⟩,λh1 h2 ⟨o,e,r⟩ k=>⟨o,k o e,r⟩⟩,rfl,q _ hn⟩
def p82(i:Nat):TI:=λσ H R=>∃ d kvs,σ[i]?=some (some (.ref d))/\H d=some (.dK kvs)/\∀ o H2,(∀ b u,b≠d->H b=some u->H2 b=some u)->H2 d=some (.frz o (.dK kvs))->R (Itv d o kvs) H2
theorem N71{i:Nat}{g:Str}{p apos cpos:Pos}{tg:Î}(hv:PE X (.Name g p) (G11 i))(hline:(apos.endLine == cpos.line)=true):PI X tg (.Call (.Attribute (.Name g p) "values" apos) [] [] cpos) (p82 i):=by
 intro pins s σ H R I h;obtain⟨d,kvs,h1,h2,q⟩:=h;refine thn ((Z51 Ü0 Û2 PySem.F.type_dict_values N61 hv rfl hline) pins s σ H (λv H1=>∃ a,v=.ref a/\H a=none/\H1=upd H a (.ext λh=>h.IsValuesView a d)) I ⟨.ref d,h1,.inr (.inr (.inl ⟨rfl,.inl ⟨kvs,h2⟩⟩)),d,kvs,rfl,rfl,h2,λa ha=>⟨a,rfl,ha,rfl⟩⟩) λv s1 ⟨x,H1,I1,r1,a,e1,e2,e3⟩=>?_;subst e1 e3;cases r1;have hda:d≠a:=λz=>by subst z;rw[h2] at e2;cases e2
 have hd1:upd H a (.ext λh=>h.IsValuesView a d) d=some (.dK kvs):=by rw[a40 hda];exact h2
 obtain⟨vw,_⟩:=I1.hok a _ b10;obtain⟨z,hs,ws,kv,o,es,ep,f1,f2,f3,f4⟩:kvs.length<=sizeLine/\(d == Ë7)=false/\∃ vs,KV kvs vs/\s1.heap.DictOf (g00 X.prog X.w) d vs:=I1.hok d _ hd1;have da:s1.heap.DictAt (g00 X.prog X.w) d ws ep:=⟨o,es,f1,f2,f3,f4⟩;refine wpAny_pyIter_values vw da ?_;have I2:=I1.kept (t':=s1.toks) (h':=s1.heap.push { cls:=.type "dict_valueiterator",data:=.fields #[.ref d,.int 0 0,.int ws.length 0,.int ep 0] }) λb o e=>Ã _ e;have I3:=I2.write (x:=d) (e:=d) (o:=.frz o (.dK kvs)) (t':=s1.toks) (h':=s1.heap.push { cls:=.type "dict_valueiterator",data:=.fields #[.ref d,.int 0 0,.int ws.length 0,.int ep 0] }) (by rw[hd1];trivial) (.inl rfl) (λb u _ e=>e) ⟨o,Ã _ f1⟩ ⟨Ã _ f1,z,hs,ws,kv,o,es,ep,Ã _ f1,f2,f3,f4⟩
 have hdl:d < s1.heap.objs.size:=Ü f1;refine⟨s1.heap.objs.size,[s1.heap.objs.size],_,Itv d o kvs,_,rfl,I3,l11 d _ o f3 (Û hdl) kvs (Í3 kv),⟨_,Ì _ rfl,rfl,rfl⟩,λb hb=>?_,q o _ (λb u hb e=>?_) b10⟩
 ·have e:b=s1.heap.objs.size:=by simpa using hb
  subst e;refine I1.b81 (É _) ?_;rw[a40 (Ò8 hdl)];exact I1.hok.fresh (É _)
 ·rw[a40 hb,a40 (λz=>by subst z;rw[e] at e2;cases e2)]
  exact e
end
abbrev GT:=Int × List Int × Æ
def kvG(ts:List GT):List (Key × V):=ts.map λt=>(.inl t.1,.ref t.2.2)
def d61:List (Int × List Int)->Int->Int->List (Int × List Int)
 |[],m,p=>[(m,[p])]|g::r,m,p=>if g.1=m then(g.1,g.2++[p])::r else g::d61 r m p
def M40:List GT->Int->Int->Æ->List GT
 |[],m,p,q=>[(m,[p],q)]|t::r,m,p,q=>if t.1=m then(t.1,t.2.1++[p],t.2.2)::r else t::M40 r m p q
def gsT(ts:List GT):List (Int × List Int):=ts.map λt=>(t.1,t.2.1)
theorem H51:∀ (ts:List GT) (m p:Int) (q:Æ),gsT (M40 ts m p q)=d61 (gsT ts) m p
 |[],_,_,_=>rfl
 |t::r,m,p,q=>by
  unfold M40;show _=d61 ((t.1,t.2.1)::gsT r) m p;unfold d61;by_cases h:t.1=m
  ·rw[if_pos h,if_pos h];rfl
  ·rw[if_neg h,if_neg h];show(t.1,t.2.1)::gsT (M40 r m p q)=_;rw[H51 r m p q]
structure GOk(H:Hp)(ts:List GT):Prop where
 nd:(ts.map λt=>t.2.2).Nodup
 at_:∀ t∈ts,H t.2.2=some (.lst (t.2.1.map V.int))
theorem l21:∀ {ts:List GT}{m p:Int}{q:Æ},d51 (kvG ts) (.inl m)=none->M40 ts m p q=ts++[(m,[p],q)]
 |[],_,_,_,_=>rfl
 |t::r,m,p,q,h=>by
  have h:d51 ((.inl t.1,V.ref t.2.2)::kvG r) (.inl m)=none:=h;rw[G70] at h;unfold M40;by_cases e:t.1=m
  ·rw[if_pos (by rw[e])] at h;cases h
  ·rw[if_neg (λz=>e (Î0.inj z))] at h;rw[if_neg e,l21 h];rfl
theorem l31{H:Hp}:∀ {ts:List GT}{m p:Int}{q:Æ}{v:V},d51 (kvG ts) (.inl m)=some v->GOk H ts->∃ t∈ts,v=.ref t.2.2/\kvG (M40 ts m p q)=kvG ts/\(M40 ts m p q).map (λt=>t.2.2)=ts.map (λt=>t.2.2)/\GOk (upd H t.2.2 (.lst (t.2.1.map V.int++[.int p]))) (M40 ts m p q)
 |[],_,_,_,_,h,_=>by cases h
 |t::r,m,p,q,v,h,ok=>by
  have h:d51 ((.inl t.1,V.ref t.2.2)::kvG r) (.inl m)=some v:=h;rw[G70] at h;have nd:(t.2.2::r.map λt=>t.2.2).Nodup:=ok.nd;rw[Ë4] at nd;unfold M40;by_cases e:t.1=m
  ·rw[if_pos (by rw[e])] at h;cases h
   rw[if_pos e];refine⟨t,Ë,rfl,rfl,rfl,ok.nd,λu hu=>?_⟩;rcases å.mp hu with rfl | hu
   ·show upd H t.2.2 _ t.2.2=_;rw[b10,Ä8];rfl
   ·rw[a40 (λ(z:u.2.2=t.2.2)=>nd.1 (by rw[← z];exact Ó2 hu))]
    exact ok.at_ u (Í _ hu)
  ·rw[if_neg (λz=>e (Î0.inj z))] at h;rw[if_neg e];obtain⟨u,h1,h2,h3,h4,h5⟩:=l31 (p:=p) (q:=q) h ⟨nd.2,λu hu=>ok.at_ u (Í _ hu)⟩;refine⟨u,Í _ h1,h2,?_,?_,?_,λw hw=>?_⟩
   ·show _::kvG (M40 r m p q)=_;rw[h3];rfl
   ·rw[Ã5,h4];rfl
   ·rw[Ã5,h4];exact ok.nd
   ·rcases å.mp hw with rfl | hw
    ·rw[a40 (λ(z:w.2.2=u.2.2)=>nd.1 (by rw[z];exact Ó2 h1))]
     exact ok.at_ _ Ë
    ·exact h5.at_ w hw
structure GI(Hb:Hp)(d:Addr)(ts:List GT)(H:Hp):Prop where
 dic:H d=some (.dK (kvG ts))
 ok:GOk H ts
 new:∀ t∈ts,Hb t.2.2=none
 old:∀ b u,b≠d->Hb b=some u->H b=some u
section
variable {X:Cx}
abbrev p92(K:Â)(i j k:Nat):TE:=tBM K "list" i31 (tBM K "dict" b02 (G11 i) (h51 (G11 k) (h51 (x72 Y91) Y91))) (h51 (G11 j) Y91)
theorem N81{Hb H:Hp}{d:Æ}{ts:List GT}{σ:St}{i j k:Nat}{m p:Int}{Q:VK}(g:GI Hb d ts H)(hi:σ[i]?=some (some (.ref d)))(hj:σ[j]?=some (some (.int p)))(hk:σ[k]?=some (some (.int m)))
  (z1:ts.length < sizeLine) (z2:∀ t∈ts,t.2.1.length < sizeLine) (h:∀ q H',GI Hb d (M40 ts m p q) H'->Q .non H'):p92 X.K i j k σ H Q:=by
 refine⟨.ref d,hi,.inr (.inr (.inl ⟨rfl,.inl ⟨_,g.dic⟩⟩)),.int m,hk,by show 0<=sizeLine;exact Å2 _,λq hq=>?_⟩
 have dq:d≠q:=λz=>by have:=g.dic;rw[z,hq] at this;cases this
 have d1:upd H q (.lst []) d=some (.dK (kvG ts)):=by rw[a40 dq];exact g.dic
 have tq:∀ t∈ts,t.2.2≠q:=λt ht z=>by have:=g.ok.at_ t ht;rw[z,hq] at this;cases this
 have td:∀ t∈ts,d≠t.2.2:=λt ht z=>by have:=g.ok.at_ t ht;rw[← z,g.dic] at this;cases this
 have bq:∀ b u,b≠d->Hb b=some u->b≠q:=λb u n e z=>by have:=g.old b u n e;rw[z,hq] at this;cases this
 have ok1:GOk (upd H q (.lst [])) ts:=⟨g.ok.nd,λt ht=>by rw[a40 (tq t ht)];exact g.ok.at_ t ht⟩
 refine⟨d,kvG ts,m,.ref q,rfl,rfl,d1,by unfold kvG;rw[È];exact z1,λv hv=>?_,λhv=>?_⟩
 ·obtain⟨t,ht,rfl,h3,h4,h5⟩:=l31 (p:=p) (q:=q) hv ok1;refine⟨.inl ⟨rfl,_,SqL.of (ok1.at_ t ht)⟩,.int p,hj,t.2.2,_,_,rfl,rfl,ok1.at_ t ht,by rw[È];exact z2 t ht,h q _ ⟨?_,h5,λw hw=>?_,λb u n e=>?_⟩⟩
  ·rw[a40 (td t ht),h3];exact d1
  ·have:w.2.2∈ts.map λt=>t.2.2:=by rw[← h4];exact Ó2 hw
   obtain⟨y,hy,e⟩:=Ð.mp this;rw[← e];exact g.new y hy
  ·rw[a40 (λz=>by have:=g.new t ht;rw[← z,e] at this;cases this),a40 (bq b u n e)]
   exact g.old b u n e
 ·have l1:upd (upd H q (.lst [])) d (.dK (kvG ts++[(.inl m,.ref q)])) q=some (.lst []):=by rw[a40 dq.symm,b10]
  refine⟨.inl ⟨rfl,_,SqL.of l1⟩,.int p,hj,q,[],_,rfl,rfl,l1,by show 0 < sizeLine;rw[À8];decide,h q _ ?_⟩
  rw[l21 hv];refine⟨?_,⟨?_,λt ht=>?_⟩,λt ht=>?_,λb u n e=>?_⟩
  ·rw[a40 dq,b10];unfold kvG;rw[Ä8];rfl
  ·rw[Ä8,List.nodup_append];refine⟨g.ok.nd,by simp,λa ha b hb=>?_⟩
   have e:b=q:=by simpa using hb
   obtain⟨t,ht,rfl⟩:=Ð.mp ha;rw[e];exact tq t ht
  ·rcases À2.mp ht with ht | ht
   ·rw[a40 (tq t ht),a40 (td t ht).symm];exact ok1.at_ t ht
   ·have e:t=(m,[p],q):=by simpa using ht
    subst e;exact b10
  ·rcases À2.mp ht with ht | ht
   ·exact g.new t ht
   ·have e:t=(m,[p],q):=by simpa using ht
    subst e;cases e:Hb q with
    |none=>rfl|some u=>have:=g.old q u dq.symm e;rw[hq] at this;cases this
  ·rw[a40 (bq b u n e),a40 n,a40 (bq b u n e)];exact g.old b u n e
structure GE(Hb:Hp)(d:Addr)(o:Obj)(ts:List GT)(n:Nat)(ys:List V)(H:Hp):Prop where
 dic:H d=some (.frz o (.dK (kvG ts)))
 ok:GOk H ts
 old:∀ b u,b≠d->Hb b=some u->H b=some u
 len:ys.length=n
 tup:∀ (i:Nat) (v:V),ys[i]?=some v->∃ a t,v=V.ref a/\ts[i]?=some t/\H a=some (.tup (t.2.1.map V.int))
abbrev y42(K:Â)(n:Nat):TE:=tCB (λ(xs:List V) (H:Hp) (Q:VK)=>∃ p ys,xs=[V.ref p]/\((SqL K H p ys/\∀ l,H l=none->Q (.ref l) (upd H l (.tup ys)))∨(SqT K H p ys/\Q (.ref p) H))) (h51 (G11 n) Y91)
theorem N91{K:Â}{Hb H:Hp}{d:Æ}{o:Obj}{ts:List GT}{σ0:St}{n:Nat}{Q:VK}(hn:n < σ0.length)(z:ts.length<=sizeLine)(g:GE Hb d o ts 0 [] H)
  (h:∀ ys H1 p,GE Hb d o ts ts.length ys H1->H1 p=none->Q (.ref p) (upd H1 p (.lst ys))):x71 (Itv d o (kvG ts)) σ0 H (K20 n) c51 (y42 K n) Q:=by
 have kl:(kvG ts).length=ts.length:=by unfold kvG;rw[È]
 refine⟨λi m ys H=>m=ts.length - i/\i<=ts.length/\GE Hb d o ts i ys H,⟨_,rfl,Å2 _,g⟩,?_⟩;rintro i m ys H ⟨rfl,hi,g⟩;by_cases e:i=ts.length
 ·subst e;exact .inl ⟨⟨g.dic,kl.symm⟩,λp hp=>h ys H p g hp⟩
 ·have hlt:i < ts.length:=Nat.lt_of_le_of_ne hi e;refine .inr ⟨⟨g.dic,by rw[kl];exact hlt⟩,by rw[g.len];exact Ö hlt z,λzs H'=>GE Hb d o ts (i + 1) zs H',λzs H' q=>⟨ts.length - (i + 1),by omega,rfl,hlt,q⟩,λx H' y=>?_⟩
  obtain⟨rfl,k,hk⟩:=y;have ht:ts[i]?=some ts[i]:=Ú hlt;have hx:x=.ref ts[i].2.2:=by
   unfold kvG at hk;rw[Þ,ht] at hk;cases hk;rfl
  subst hx;unfold K20 c51;dsimp only;rw[if_pos rfl];have hat:=g.ok.at_ ts[i] (Æ0 hlt);refine⟨_,à hn,ts[i].2.2,_,rfl,.inl ⟨SqL.of hat,λl hl=>?_⟩⟩;have ne:∀ {b:Æ}{u:HO},H' b=some u->b≠l:=λq z=>by rw[z,hl] at q;cases q
  refine⟨by rw[a40 (ne g.dic)];exact g.dic,⟨g.ok.nd,λt ht=>by rw[a40 (ne (g.ok.at_ t ht))];exact g.ok.at_ t ht⟩,λb u n e=>by rw[a40 (ne (g.old b u n e))];exact g.old b u n e,by rw[À5,g.len];rfl,λj v hv=>?_⟩
  rw[Ê9] at hv;split at hv
  ·obtain⟨a,t,h1,h2,h3⟩:=g.tup j v hv;exact⟨a,t,h1,h2,by rw[a40 (ne h3)];exact h3⟩
  ·rename_i hj;have hj0:j - ys.length=0:=by
    cases q:j - ys.length with
    |zero=>rfl|succ q'=>rw[q] at hv;simp at hv
   rw[hj0] at hv;cases hv;have:j=i:=by have:=g.len;omega
   subst this;exact⟨l,ts[j],rfl,ht,b10⟩
end
open PySem PySem.Spec PyProof.Rows PySem.W
theorem O01{P:â}{w:õ}{A:ü}{E:Ä->Å->Prop}{s:Å}{a:Æ}{o:Obj}{Q:Option Ä->Å->Prop}(hh:A.handled=none)(ho:s.heap.get? a=some o)(hc:o.cls=.type "list")(hd:o.dict=none){its:Array Ä}{n:Nat}(hD:o.data=.seq its n)
  (q:∀ h' tk,(∀ b u,s.heap.get? b=some u->h'.get? b=some u)->s.heap.objs.size<=h'.objs.size->Q none {s with heap:=h',toks:=tk}):Ñ (Ø P w) A (getAttr? (.ref a) (ç "keys")) Q E s:=by
 obtain⟨hp,g,d,tk,os⟩:=s;obtain⟨ocls,odict,odata,oslots⟩:=o;subst hc;subst hd;subst hD;have hT:Û6 { heap:=hp,gens:=g,drawn:=d,toks:=tk + 1,os:=os } (.ref a) "list":=⟨_,ho,rfl⟩;have kl:typeLookup (.type "list") (ç "keys")=pure none:=by rw[typeLookup_type,builtinLookup_eq_fast];kernel_rfl
 have kg:typeLookup (.type "list") (ç "__getattr__")=pure none:=by rw[typeLookup_type,builtinLookup_eq_fast];kernel_rfl
 unfold getAttr? getAttrBy? getAttrBy
 wp_walk
 refine Ý3 Ï4.lookup ?_;dsimp only;refine Ý6 (by rfl) ?_
 unfold getAttrByItsOwn hookBefore callGetattribute boundAndCalled;refine À (Ý6 (-0) (Ç ?_))
 refine À (Ø0 (Ã1 (Ý6 (-0) (À (Ý3 (Ï4.bind _) ?_)))))
 dsimp only;refine Â8 Ï4 hT F.entry_list_ga ?_ (F.args_list_getattribute_2 _ _);unfold Â0.«object.__getattribute__»
 wp_walk
 have hm:(ç (toString "'"++toString ((Ï7 "list").elim "list" λx=>x.tpName)++toString "' object has no attribute '")++ç "keys"++ç "'").length<=1000:=by decide +kernel
 generalize (ç (toString "'"++toString ((Ï7 "list").elim "list" λx=>x.tpName)++toString "' object has no attribute '")++ç "keys"++ç "'")=msg at hm ⊢;have hm':¬ msg.length > sizeLine:=by rw[À8];omega
 have hst:¬ ((Ï7 "AttributeError").elim false λt=>t.mro.contains "StopIteration" || t.mro.contains "SystemExit")=true:=by decide +kernel
 have hsub:isSubtype (.type "AttributeError") (.type "AttributeError")=pure true:=by rw[isSubtype_type];kernel_rfl
 unfold raiseAttrError newExc firstArgMember
 wp_walk
 have sz1:(hp.push { cls:=Á0 "tuple",data:=Data.seq #[Î4 msg (tk + 1)] }).objs.size=hp.objs.size + 1:=Æ7 ..;generalize e1:hp.push { cls:=Á0 "tuple",data:=Data.seq #[Î4 msg (tk + 1)] }=h1 at sz1 ⊢;generalize e3:(h1.push { cls:=Á0 "AttributeError",data:=Data.fields (#[þ hp.objs.size,á,á,á,Å8 false,if ((Ï7 "AttributeError").elim false λt=>t.mro.contains "StopIteration" || t.mro.contains "SystemExit")=true then [Î4 msg (tk + 1)].headD á else á]++ownMembersOf (Á0 "AttributeError") [Î4 msg (tk + 1)]) }).update h1.objs.size (Obj.mapFields λvs=>vs.extract 0 6++#[Î4 (ç "keys") (tk + 1 + 1),þ a])=h3;have kp:∀ b u,hp.get? b=some u->h3.get? b=some u:=λb u e=>by
  rw[← e3];have lb:=Ü e;exact(Æ4 _ h1.objs.size _).extBut b u (Û (by rw[sz1];exact È6 lb)) (Ã _ (e1 ▸ Ã _ e))
 have tyE:∃ o,h3.get? h1.objs.size=some o/\o.cls=.type "AttributeError":=by
  rw[← e3];exact⟨_,Ð8 _ (Ì _ rfl) rfl,rfl⟩
 have szE:hp.objs.size<=h3.objs.size:=by
  obtain⟨o,e,_⟩:=tyE;have:=Ü e;rw[sz1] at this;exact Ì2 (Nat.lt_of_succ_lt this)
 obtain⟨oE,gE,cE⟩:=tyE;refine wpAny_raiseNew_none (by simp[hh]) ?_
 have hTE:Û6 { heap:=h3,gens:=g,drawn:=d,toks:=tk + 1 + 1 + 1,os:=os } (.ref h1.objs.size) "AttributeError":=⟨oE,gE,cE⟩;unfold getattributeRaised hookBehind hookOrError attributeErrorLeaves;refine À (wpAny_isInstance hTE hsub ?_);rw[if_pos rfl]
 wp_walk
 exact q h3 _ kp szE
theorem s10:plainId "dict.update.loop"=true:=by decide +kernel
theorem M50:entryFor table "dict.update.loop"=some Â0.«dict.update.loop»:=entryFor_of_tree (by kernel_rfl)
section
variable {P:â}{w:õ}{A:ü}{R:Result->Å->Prop}{s0:Å}
def D30(P:â)(w:õ)(h:ï)(ks:List Int)(t b:Æ):Prop:=(∃ o n,h.get? t=some o/\o.cls=.type "tuple"/\o.data=.seq #[.ref b,.bool true] n)/\Ç2 (Ç0 P w) h ks b
theorem d71{I D a:Æ}{its:Array Ä}{kss:List (List Int)}(hu:A.units + 2 < Â4)(hh:A.handled=none)(hI:a≠I)(hl:kss.length=its.size)(hz:its.size<=sizeLine)
  (ka:∀ (i:Nat) (ks:List Int),kss[i]?=some ks->∃ t b:Æ,its[i]?=some (þ t)/\t≠I/\t≠D/\b≠I/\b≠D/\D30 P w s0.heap ks t b) (hDI:D≠I) (hDa:D≠a)
  (hR:∀ (h':ï) (tk:Nat) (xs:List Ke),R90 D xs h'->(∀ ks,ks∈xs.map (·.1)↔ks∈kss)->(∀ x∈xs,∃ i t:Nat,kss[i]?=some x.1/\its[i]?=some (þ t)/\x.2.1≠I/\x.2.1≠D/\D30 P w s0.heap x.1 t x.2.1)->(∀ b o,b≠I->b≠D->s0.heap.get? b=some o->h'.get? b=some o)->R (.ok (.ret .none)) { s0 with heap:=h',toks:=tk }) :
  ∀ (k i:Nat) (h:ï) (tk:Nat) (j:Int) (xs:List Ke),i + k=its.size->(h.IsListIter I a i/\h.IsList a its)->R90 D xs h->xs.length<=i->(∀ ks,ks∈xs.map (·.1)↔ks∈kss.take i)->(∀ x∈xs,∃ i t:Nat,kss[i]?=some x.1/\its[i]?=some (þ t)/\x.2.1≠I/\x.2.1≠D/\D30 P w s0.heap x.1 t x.2.1)->(∀ b o,b≠I->b≠D->s0.heap.get? b=some o->h.get? b=some o) ->
   Ï6 (Ø P w) A (.builtin "dict.update.loop" ⟨[.ref D,.ref I,rawInt j,.none],[]⟩) R { s0 with heap:=h,toks:=tk }:=by
 have W:=Ú8 (prog:=P) (w:=w) (A:=A.in1) (by simp[hh]) I a hI its
 intro k
 induction k with
 |zero =>
  intro i h tk j xs hk st ac hxl hks had hkp;have hk:i=its.size:=hk;subst hk;refine Ç6 M50 ?_;rw[Ç3 s10 _];refine À (m:=Ø9 (.ref I)) (W.done _ _ _ st λh1 tk1 k1=>?_);obtain⟨o,es,ep,e1,e2⟩:=ac;refine À (m:=Â0.Dict.addKeywords D []) (Ç (Ç ?_));exact hR h1 tk1 xs ⟨o,es,ep,k1 _ _ (by simpa using hDI) e1,e2⟩ (λks=>by rw[hks,← hl,Ò5]) had λb o z1 z2 e=>k1 b o (by simpa using z1) (hkp b o z1 z2 e)
 |succ k ih =>
  intro i h tk j xs hk st ac hxl hks had hkp;refine Ç6 M50 ?_;rw[Ç3 s10 _];refine À (m:=Ø9 (.ref I)) (W.item i _ _ _ ∅ st λv h1 tk1 hv st1 k1=>?_)
  have hv':kss[i]?=some kss[i]:=Ú ∅
  obtain⟨t,b,ht,tI,tD,bI,bD,⟨ot,n,t1,t2,t3⟩,isb⟩:=ka i _ hv';have hv0:its[i]?=some v:=hv;rw[ht] at hv0;cases hv0;have kall:∀ b o,b≠I->b≠D->s0.heap.get? b=some o->h1.get? b=some o:=λb o z1 z2 e=>k1 b o (by simpa using z1) (hkp b o z1 z2 e)
  dsimp only;refine À (Ã1 ?_);have t1':=kall t ot tI tD t1;obtain⟨ocls,odict,odata,oslots⟩:=ot;have t2:ocls=.type "tuple":=t2;have t3:odata=.seq #[.ref b,.bool true] n:=t3;subst t2;subst t3;refine À (wpAny_tryCatch ?_);unfold Â0.Dict.pairItems;refine À (Æ5 (T:="tuple") ⟨_,t1',rfl⟩ ?_);rw[if_pos (-0)]
  refine À (Ä5 t1' rfl (Ç ?_));show Ñ _ _ (Ú6 [.ref b,.bool true] (dictSet D (.ref b) (.bool true))) _ _ _;refine Ã1 ?_;obtain⟨o,es,ep,e1,e2,e3,e4,e5⟩:=ac;have keyS:∀ {ks:List Int}{b:Æ},b≠I->b≠D->Ç2 (Ç0 P w) s0.heap ks b->Ç2 (Ç0 P w) h1 ks b:=λn1 n2 ⟨o,i,n,e,r⟩=>⟨o,i,n,kall _ o n1 n2 e,r⟩;have isK:∀ x∈xs,Ç2 (Ç0 P w) h1 x.1 x.2.1:=λx hx=>by
   obtain⟨i',t',q1,q2,q3,q4,q5⟩:=had x hx;exact keyS q3 q4 q5.2
  refine wpAny_dictSet_heap (hsz:=by omega) (knd:=Ü5 (Ç0 P w)) (Ø8 ∅) (keyS bI bD isb) ⟨o,es,ep,k1 D o (by simpa using hDI) e1,e2,e3,e4,isK,e5⟩ λh3 ⟨o3,es3,ep3,f1,f2,f3,f4,_,f6⟩ sb3=>?_
  refine Ç ⟨Ø1 s10 _,ih (i + 1) h3 _ (j + 1) (Õ6 xs kss[i] b (.bool true)) ∅ (W.frame _ h1 _ st1 λc hc o e=>sb3.extBut c o (λz=>?_) e) ⟨o3,es3,ep3,f1,f2,f3,f4,f6⟩ (Ô D20 ∅) (λks=>?_) (λy hy=>?_) λc o z1 z2 e=>sb3.extBut c o z2 (kall c o z1 z2 e)⟩
  ·subst z;rcases å.mp hc with z | z
   ·exact hDI z
   ·exact hDa (by simpa using z)
  ·rw[z80,hks,List.take_add_one,mem_append,hv'];exact or_congr Iff.rfl (Ë0 (a:=ks) (b:=kss[i])).symm
  ·rcases D10 hy with ⟨u,hu',e6,e7⟩ | ⟨e6,e7⟩
   ·rw[← e6,← e7];exact had u hu'
   ·refine⟨i,t,by rw[e6];exact hv',ht,by rw[e7];exact bI,by rw[e7];exact bD,?_⟩
    rw[e6,e7];exact⟨⟨_,n,t1,rfl,rfl⟩,isb⟩
end
section
variable {P:â}{w:õ}{A:ü}{E:Ä->Å->Prop}{s:Å}
theorem d81{a:Æ}{its:Array Ä}{kss:List (List Int)}{o:Obj}{n:Nat}{Q:Ä->Å->Prop}(hu:A.units + 3 < Â4)(hh:A.handled=none)(ho:s.heap.get? a=some o)(hc:o.cls=.type "list")(hd:o.dict=none)(hD:o.data=.seq its n)(hl:kss.length=its.size)(hz:its.size<=sizeLine)
  (ka:∀ (i:Nat) (ks:List Int),kss[i]?=some ks->∃ t b:Æ,its[i]?=some (þ t)/\D30 P w s.heap ks t b)
  (q:∀ (h':ï) (tk:Nat) (xs:List Ke),R90 s.heap.objs.size xs h'->(∀ ks,ks∈xs.map (·.1)↔ks∈kss)->(∀ x∈xs,∃ i t:Nat,kss[i]?=some x.1/\its[i]?=some (þ t)/\D30 P w s.heap x.1 t x.2.1)->(∀ b u,s.heap.get? b=some u->h'.get? b=some u)->Q (.ref s.heap.objs.size) { s with heap:=h',toks:=tk }) :
  Ñ (Ø P w) A (call (.type "dict") [.ref a]) Q E s:=by
 refine callType_codes F.kt_called_dict (F.kt_typeCall_dict_1 _) F.entry_dict_init (kt_code_dict_new (.ref a) (Q₁:=λv s1=>v=.ref s.heap.objs.size/\s1={ s with heap:=s.heap.push { cls:=.type "dict",data:=.dict #[] } }) ⟨rfl,rfl⟩) λobj s1 ⟨e1,e2⟩=>?_;subst e1;subst e2;have ho1:(s.heap.push { cls:=.type "dict",data:=.dict #[] }).get? a=some o:=Ã _ ho;have hDg:(s.heap.push { cls:=.type "dict",data:=.dict #[] }).get? s.heap.objs.size=some { cls:=.type "dict",data:=.dict #[] }:=Ì _ rfl;have hT:Û6 { s with heap:=s.heap.push { cls:=.type "dict",data:=.dict #[] } } (.ref s.heap.objs.size) "dict":=⟨_,hDg,rfl⟩;have sz1:(s.heap.push { cls:=.type "dict",data:=.dict #[] }).objs.size=s.heap.objs.size + 1:=Æ7 ..;refine⟨hT,F.args_dict_init_2 _ _,?_⟩;unfold Â0.«dict.__init__» Â0.Dict.selfAndRest;refine À (À (wpAny_notOrdered_dict hT ?_));refine À (m:=Â0.Dict.addrOf (.ref s.heap.objs.size)) (Ç (Ç ?_));show Ñ _ _ (Ö6 "dict.__init__" s.heap.objs.size (.ref a) [] .none) _ _ _;unfold Ö6;refine À (Æ5 (T:="list") ⟨o,ho1,hc⟩ ?_);rw[if_pos (-0)]
 refine À (O01 (by simp[hh]) ho1 hc hd hD λh2 tk2 kp2 sz2=>?_)
 rw[if_pos (by rfl)]
 refine À (Ë6 (À (Ê4 (items:=its) ⟨o,kp2 _ _ ho1,hc,n,hD⟩ ?_)));refine Ç ⟨Ø1 s10 _,?_⟩;have la:=Ü ho;rw[sz1] at sz2;generalize e3:h2.push { cls:=.type "list_iterator",data:=.fields #[.ref a,.int 0 0] }=h3;have old1:∀ b u,(s.heap.push { cls:=.type "dict",data:=.dict #[] }).get? b=some u->h3.get? b=some u:=λb u e=>e3 ▸ Ã _ (kp2 b u e);have old:∀ b u,s.heap.get? b=some u->h3.get? b=some u:=λb u e=>old1 b u (Ã _ e);have lw:∀ {b:Æ},b < s.heap.objs.size->b≠h2.objs.size/\b≠s.heap.objs.size:=λ{b} hb=>⟨Û (Ö hb (Ô (le_succ _) sz2)),Û hb⟩;have tkey:∀ {ks:List Int}{b:Æ},Ç2 (Ç0 P w) s.heap ks b->b < s.heap.objs.size/\Ç2 (Ç0 P w) h3 ks b:=λ⟨o,i,n,e,r⟩=>⟨Ü e,o,i,n,old _ _ e,r⟩;refine d71 (s0:={ s with heap:=h3,toks:=tk2 }) (I:=h2.objs.size) (D:=s.heap.objs.size) (a:=a) (its:=its) (kss:=kss) (by show A.units + 1 + 2 < Â4;omega) (by simp[hh]) (lw la).1 hl hz (λi ks e=>?_) (Û (Ö (Ù5 _) sz2)) (lw la).2.symm (λh' tk xs k1 k2 k3 k4=>?_) its.size 0 h3 tk2 0 [] (zero_add _) ⟨⟨_,e3 ▸ Ì _ rfl,rfl,rfl⟩,⟨o,old _ _ ho,hc,n,hD⟩⟩ ⟨_,#[],_,old1 _ _ hDg,⟨rfl,rfl,rfl⟩,rfl,rfl,by simp⟩ (É _) (λks=>by simp) (λx hx=>by simp at hx) λ_ _ _ _ e=>e
 ·obtain⟨t,b,h1,⟨ot,m,g1,g2⟩,g3⟩:=ka i ks e;have lt:=lw (Ü g1);obtain⟨lb,g4⟩:=tkey g3;exact⟨t,b,h1,lt.1,lt.2,(lw lb).1,(lw lb).2,⟨ot,m,old _ _ g1,g2⟩,g4⟩
 ·refine⟨rfl,q h' tk xs k1 k2 (λx hx=>?_) λb u e=>?_⟩
  ·obtain⟨i,t,f1,f2,_,_,⟨ot,m,g1,g2,g3⟩,g4⟩:=k3 x hx;obtain⟨t',b',f3,⟨ot',m',j1,j2,j3⟩,j4⟩:=ka i _ f1;rw[f2] at f3;cases f3;have j5:=old _ _ j1;have g1':h3.get? t=some ot:=g1;rw[j5] at g1';cases g1';rw[j3] at g3;have eb:b'=x.2.1:=by
    have:=(Data.seq.inj g3).1;simpa using this
   subst eb;exact⟨i,t,f1,f2,⟨_,m',j1,j2,j3⟩,j4⟩
  ·have lb:=lw (Ü e);exact k4 b u lb.1 lb.2 (old b u e)
end
section
variable {X:Cx}
theorem d91(hc:X.calm=true)(hu:X.A.units + 3 < Â4):f00 X (.type "dict") (λxs H Q=>∃ a ys kss,xs=[.ref a]/\SqL X.K H a ys/\Á7 (λy ks=>∃ t b,y=.ref t/\SqT X.K H t [.ref b,.bl true]/\SqT X.K H b (ks.map V.int)) ys kss/\∀ d H2,a10 H H2->H d=none->Q00 X.K H2 d kss->Q (.ref d) H2):=by
 intro pins s σ H xs us Q I r h;obtain⟨a,ys,kss,rfl,hq,pk,q⟩:=h;obtain⟨u,rfl,rx⟩:=vals1 r;cases rx;obtain⟨its,rv,p,hz⟩:=I.list hq;obtain⟨o,n,e,c,dn,dt⟩:=p;have pa:∀ (i:Nat) (ks:List Int),kss[i]?=some ks->∃ t b:Æ,its.toArray[i]?=some (þ t)/\SqT X.K H b (ks.map V.int)/\D30 X.prog X.w s.heap ks t b:=λi ks ei=>by
  obtain⟨y,hy,t,b,rfl,ht,hb⟩:=x60 pk ei;obtain⟨u,hu1,hu2⟩:=rv.get hy;cases hu2;obtain⟨ts,rt,⟨ot,t1,t2,m,t3⟩,_⟩:=I.tuple ht;cases rt with
  |cons r1 r2 =>
   cases r2 with
   |cons r3 r4 =>
    cases r4;cases r1;cases r3;exact⟨t,b,by simpa using hu1,hb,⟨ot,m,t1,t2,t3⟩,key_is I hb⟩
 refine d81 (its:=its.toArray) (kss:=kss) hu (I.ok.hd hc) e c dn dt (by rw[Ó,← rv.length];exact pk.length.symm) (by rw[Ó,← rv.length];exact hz) (λi ks ei=>by obtain⟨t,b,h1,_,h2⟩:=pa i ks ei;exact⟨t,b,h1,h2⟩) λh' tk xs kd kk ka kp=>?_
 obtain⟨od,es,ep,f1,f2⟩:=kd;have hDn:H s.heap.objs.size=none:=I.hok.fresh (É _);have hst:∀ h1 h2:ï,R90 s.heap.objs.size xs h1->(∀ o,h1.get? s.heap.objs.size=some o->h2.get? s.heap.objs.size=some o)->R90 s.heap.objs.size xs h2:=λ_ _ ⟨o,es,ep,f1,f2⟩ k=>⟨o,es,ep,k _ f1,f2⟩;refine⟨.ref s.heap.objs.size,upd H s.heap.objs.size (.ext (R90 s.heap.objs.size xs)),I.laid (t':=tk) kp (É _) ⟨⟨od,es,ep,f1,f2⟩,⟨od,f1⟩,hst⟩,rfl,q _ _ (a10.new _ hDn) hDn ⟨xs,b10,?_,λy hy=>?_,kk⟩⟩
 ·exact beq_eq_false_iff_ne.mpr (Û I.big).symm
 ·obtain⟨i,t,g1,g2,⟨ot,m,j1,j2,j3⟩,_⟩:=ka y hy;obtain⟨t',b',k1,k2,⟨ot',m',l1,l2,l3⟩,_⟩:=pa i _ g1;rw[g2] at k1;cases k1;rw[l1] at j1;cases j1;rw[l3] at j3;have eb:b'=y.2.1:=by
   have:=(Data.seq.inj j3).1;simpa using this
  rw[← eb];exact a10.sqT (a10.new _ hDn) k2
end
end L2
namespace Q
open PySem L2
abbrev Z:=Option (Int × Bool)
inductive S where
 |d (x:D) | fr (xs:List D) | z
 |ks (l:List (List Int))
inductive R (α:Type) where
 |ok (a:α) (z:Z) | er (c:Nat) (z:Z)
abbrev M(α:Type):=Z->Option (R α)
def M.ret{α:Type}(a:α):M α:=λz=>some (.ok a z)
def M.no{α:Type}:M α:=λ_=>none
def M.of{α:Type}:Option α->M α
 |some a=>M.ret a|none=>M.no
def M.bind{α β:Type}(m:M α)(f:α->M β):M β:=λz=>match m z with
 |some (.ok a z1)=>f a z1|some (.er c z1)=>some (.er c z1)|none=>none
def M.calm{α:Type}(m:M α):M α:=λz=>match m z with
 |some (.ok a z1)=>some (.ok a z1)|_=>none
abbrev Env:=List (Option S)
def pl:List S->Option D
 |[.d x]=>some x|[.fr xs]=>some (.lst xs)|_=>none
def one:List S->Option S
 |[s]=>some s|_=>none
def plS:S->S
 |.fr xs=>.d (.lst xs)|s=>s
def plD:S->Option D
 |.d x=>some x|.fr xs=>some (.lst xs)|_=>none
def plA:List S->Option (List D)
 |[]=>some []|.d x::r=>(plA r).map (x::·)|.fr xs::r=>(plA r).map (.lst xs::·)|_::_=>none
inductive Bi where
 |add | sub | mul | fdiv | mod | pow | shl
inductive Cm where
 |eq | ne | lt | le | gt | ge | isnt | mem | nmem
inductive Bf where
 |len | sorted | tuple | list | min | max | all | any | int | sset | k42
 |dict
inductive Ty where
 |int | bool | tuple | list | str | seq
inductive Pat where
 |v (i:Nat) | tup (ps:Pat) | nil | cons (p r:Pat)
inductive It where
 |seq | rng1 | rng2 | zip | enum
inductive Ex where
 |nil | cons (a r:Ex)
 |var (i:Nat) | con (x:D) | gint (g:Str) (i:Int)
 |tup (as:Ex) | lst (as:Ex)
 |bin (o:Bi) (a b:Ex) | cmp (o:Cm) (a b:Ex) | neg (a:Ex)
 |not (a:Ex) | and (a b:Ex) | or (a b:Ex) | orT (a b:Ex) | ite (c a b:Ex)
 |ch (o o':Cm) (a b c:Ex)
 |bf (f:Bf) (as:Ex) | isi (t:Ty) (a:Ex)
 |idx (a i:Ex) | sl (a lo hi:Ex)
 |call (f:Nat) (as:Ex)
 |comp (own:Nat) (capt:List Nat) (p:Pat) (it:It) (src cond el:Ex)
 |zget (i k:Nat) | lrng (b:Bool) (as:Ex)
 |dkeys (a:Ex) | memk (o:Bool) (a:Ex) (i:Nat)
abbrev most:Nat:=100000
def l41:Nat:=2 ^ 4000
mutual
noncomputable def eqD:D->D->Bool
 |.non,.non=>true|.bl a,.bl b=>a == b|.int a,.int b=>a == b|.str a,.str b=>a == b|.bl a,.int b=>(if a then 1 else 0) == b|.int a,.bl b=>a == (if b then 1 else 0)|.tup a,.tup b=>O11 a b|.lst a,.lst b=>O11 a b|.dct,.dct=>true|_,_=>false
noncomputable def O11:List D->List D->Bool
 |[],[]=>true|a::r,b::q=>eqD a b&&O11 r q|_,_=>false
end
mutual
noncomputable def ltD:D->D->Option Bool
 |.int a,.int b=>some (decide (a < b))|.tup a,.tup b=>A21 a b|_,_=>none
noncomputable def A21:List D->List D->Option Bool
 |[],[]=>some false|[],_::_=>some true|_::_,[]=>some false|a::r,b::q=>if eqD a b then A21 r q else ltD a b
end
mutual
noncomputable def u30:D->Bool
 |.dct=>false|.tup l=>f60 l|.lst l=>f60 l|.str x=>PyData.strOk x|_=>true
noncomputable def f60:List D->Bool
 |[]=>true|x::r=>u30 x&&f60 r
end
mutual
noncomputable def deep:D->Nat
 |.tup l=>i60 l + 1|.lst l=>i60 l + 1|_=>0
noncomputable def i60:List D->Nat
 |[]=>0|x::r=>Nat.max (deep x) (i60 r)
end
def okD(d:D):Bool:=u30 d&&decide (deep d<=40)
def H61(l:List D):Bool:=f60 l&&decide (i60 l<=39)
theorem f10{c:Prop}[Decidable c]{α:Type}{a:Option α}{b:α}(h:(if c then a else none)=some b):c/\a=some b:=by
 by_cases k:c
 ·rw[if_pos k] at h;exact⟨k,h⟩
 ·rw[if_neg k] at h;cases h
def eqO(a b:D):Option Bool:=if okD a&&okD b then some (eqD a b) else none
def eqE:D->D->Option Bool
 |.tup l,.tup []=>some l.isEmpty|_,_=>none
def eqQ(a b:D):Option Bool:=if okD a&&okD b then some (eqD a b) else eqE a b
def ltO(a b:D):Option Bool:=if okD a&&okD b then ltD a b else none
def memD(x:D)(l:List D):Bool:=l.any λy=>eqD y x
def e01(x:D)(l:List D):Option Bool:=if okD x&&H61 l then some (memD x l) else none
def j40:List D->Option (List Int)
 |[]=>some []|.int i::r=>(j40 r).map (i::·)|_=>none
def M60:Bi->D->D->Option S
 |.add,.int i,.int j=>some (.d (.int (i + j)))|.add,.tup a,.tup b=>if a.length + b.length<=most then some (.d (.tup (a++b))) else none|.add,.lst a,.lst b=>if a.length + b.length<=most then some (.fr (a++b)) else none|.sub,.int i,.int j=>some (.d (.int (i - j)))|.mul,.int i,.int j=>if i.natAbs < l41/\j.natAbs < l41 then some (.d (.int (i * j))) else none|.mul,.tup a,.int j=>if 0<=j/\j.toNat * a.length<=most/\j < 1000000 then some (.d (.tup (ë j.toNat a).flatten)) else none|.mul,.lst a,.int j=>if 0<=j/\j.toNat * a.length<=most/\j < 1000000 then some (.fr (ë j.toNat a).flatten) else none|.fdiv,.int i,.int j=>if 0 < j/\j.natAbs < l41 then some (.d (.int (i / j))) else none|.mod,.int i,.int j=>if 0 < j then some (.d (.int (i % j))) else none|.pow,.int i,.int j=>if 0<=j/\j<=1000/\i.natAbs < 2 ^ 64 then some (.d (.int (i ^ j.toNat))) else none|.shl,.int i,.int j=>if 0<=j/\j<=1000/\i.natAbs < 2 ^ 64 then some (.d (.int (i * 2 ^ j.toNat))) else none|_,_,_=>none
def l51:D->Bool
 |.non=>true|_=>false
def neO:D->D->Option Bool
 |.dct,.tup _=>some true|a,b=>(eqO a b).map (!·)
def C50:Cm->D->D->Option Bool
 |.eq,a,b=>eqQ a b|.ne,a,b=>neO a b|.lt,a,b=>ltO a b|.gt,.int a,.int b=>some (decide (b < a))|.le,.int a,.int b=>some (decide (a<=b))|.le,.tup a,.tup b=>(j40 a).bind λns=>(j40 b).map λms=>HT.leB ns ms|.ge,.int a,.int b=>some (decide (b<=a))|.isnt,.bl a,.bl b=>some (a != b)|.isnt,a,.non=>some (!l51 a)|.mem,a,.tup l=>e01 a l|.mem,a,.lst l=>e01 a l|.nmem,a,.tup l=>(e01 a l).map (!·)|.nmem,a,.lst l=>(e01 a l).map (!·)|_,_,_=>none
def k92:Ty->D->Bool
 |.int,.int _=>true|.int,.bl _=>true|.bool,.bl _=>true|.tuple,.tup _=>true|.list,.lst _=>true|.str,.str _=>true|.seq,.tup _=>true|.seq,.lst _=>true|_,_=>false
def asB:D->Option Bool
 |.bl b=>some b|_=>none
def b12:D->Option (List D)
 |.tup l=>some l|_=>none
def asI:D->Option Int
 |.int i=>some i|_=>none
def l61:D->Option (List D)
 |.tup l=>some l|.lst l=>some l|_=>none
mutual
noncomputable def flt:D->List Int
 |.int i=>[i]|.tup l=>y52 l|_=>[]
noncomputable def y52:List D->List Int
 |[]=>[]|x::r=>flt x++y52 r
end
mutual
noncomputable def eqT:D->D->Bool
 |.int i,.int j=>i == j|.tup a,.tup b=>Q10 a b|_,_=>false
noncomputable def Q10:List D->List D->Bool
 |[],[]=>true|x::r,y::q=>eqT x y&&Q10 r q|_,_=>false
end
def l71:D->Nat
 |.int _=>0|.tup (.int _::_)=>1|.tup (.tup _::_)=>2|_=>3
def k00(x y:D):Bool:=l71 y == l71 x&&(ltD x y == some (MySort.i30 (flt x) (flt y))&&(eqT x y || !(flt x == flt y)))
def o90(l:List D):Bool:=l.all λx=>decide (l71 x < 3)&&(okD x&&l.all (k00 x))
def A31(k:D):List D->List D
 |[]=>[k]|y::r=>if MySort.i30 (flt y) (flt k) then y::A31 k r else k::y::r
def z90:List D->List D
 |[]=>[]|k::r=>A31 k (z90 r)
def b70(k m:Nat):D:=.tup ((TS.z50 k 0 m).map λ(i:Nat)=>.int i)
def g60(k:Nat):List D:=(í (2 ^ k)).map (b70 k)
def A41(k:Nat):List D:=(TS.sN k).map (b70 k)
def y62(l:List D):Option (List D):=((í 9).find? λk=>Q10 l (g60 k)).map A41
def sortedS(x:D):Option S:=(l61 x).bind λl=>if l.length < 64/\o90 l=true then some (.fr (z90 l)) else(y62 l).map S.fr
def prD:D->Option (List Int)
 |.tup [.tup l,.bl b]=>if b then j40 l else none|_=>none
def O21:List D->Option (List (List Int))
 |[]=>some []|x::r=>(prD x).bind λk=>(O21 r).map (k::·)
def bfD:Bf->List D->Option S
 |.dict,[.lst l]=>(O21 l).map .ks|.len,[x]=>(l61 x).map λl=>.d (.int l.length)|.tuple,[x]=>(l61 x).map λl=>.d (.tup l)|.list,[x]=>(l61 x).map λl=>.fr l|.all,[.lst l]=>(l.mapM asB).map λbs=>.d (.bl (bs.all id))|.any,[.lst l]=>(l.mapM asB).map λbs=>.d (.bl (bs.any id))|.sorted,[x]=>sortedS x|.min,[.int i,.int j]=>some (.d (.int (if j < i then j else i)))|.max,[.int i,.int j]=>some (.d (.int (if j > i then j else i)))|.int,[.bl b]=>some (.d (.int (if b then 1 else 0)))|.int,[.int i]=>some (.d (.int i))|_,_=>none
def l81:D->D->Option D
 |.tup l,.int i=>atI l i|.lst l,.int i=>atI l i|_,_=>none
def cutD(l:List D)(lo hi:Option Int):List D:=(l.drop (HT.sIx l.length 0 lo)).take (HT.sIx l.length l.length hi - HT.sIx l.length 0 lo)
def slD:D->Option Int->Option Int->Option S
 |.tup l,lo,hi=>some (.d (.tup (cutD l lo hi)))|.lst l,lo,hi=>some (.fr (cutD l lo hi))|_,_,_=>none
def l91:List S->Option (Option Int)
 |[]=>some none|[.d (.int i)]=>some (some i)|_=>none
def u40:List D->Nat->List D
 |[],_=>[]|x::r,i=>.tup [.int i,x]::u40 r (i + 1)
def x70:List D->List D->List D
 |x::r,y::q=>.tup [x,y]::x70 r q|_,_=>[]
def inR:Int->Bool
 |.ofNat n=>Nat.blt n 100000|.negSucc n=>Nat.blt n 99999
theorem G80:inR j=true↔-100000 < j/\j < 100000:=by
 cases j with
 |ofNat n=>show ble (n + 1) 100000=true↔_;rw[Nat.ble_eq];show _↔-100000 < (n:Int)/\(n:Int) < 100000;omega|negSucc n=>show ble (n + 1) 99999=true↔_;rw[Nat.ble_eq,Int.negSucc_eq];omega
def itD:It->List D->Option (List D)
 |.seq,[x]=>l61 x|.rng1,[.int j]=>if inR j=true then some ((í j.toNat).map λ(i:Nat)=>D.int i) else none|.rng2,[.int i,.int j]=>if inR i=true/\inR j=true then some ((í (j - i).toNat).map λ(k:Nat)=>D.int (i + k)) else none|.zip,[.tup a,.tup b]=>some (x70 a b)|.zip,[.lst a,.lst b]=>some (x70 a b)|.enum,[.tup a]=>some (u40 a 0)|.enum,[.lst a]=>some (u40 a 0)|_,_=>none
def lrS:Bool->List D->S
 |true,xs=>.d (.tup xs)|false,xs=>.fr xs
def lrN:Bool->Str
 |true=>"tuple"|false=>"list"
def lrD:List D->Option (List D)
 |[x]=>itD .rng1 [x]|l=>itD .rng2 l
mutual
noncomputable def e40:Pat->D->Env->Option Env
 |.v i=>λx ρ=>some (ρ.set i (some (.d x)))
 |.tup ps=>λx ρ=>match x with
  |.tup l=>bindL ps l ρ|_=>none
 |.nil=>λ_ _=>none|.cons _ _=>λ_ _=>none
noncomputable def bindL:Pat->List D->Env->Option Env
 |.nil=>λl ρ=>match l with
  |[]=>some ρ|_=>none
 |.cons p r=>λl ρ=>match l with
  |x::l=>(e40 p x ρ).bind λρ=>bindL r l ρ|_=>none
 |.v _=>λ_ _=>none|.tup _=>λ_ _=>none
end
def turns(f:D->M (Option D)):List D->M (List D)
 |[]=>M.ret []|x::r=>M.bind (f x) λo=>M.bind (turns f r) λl=>M.ret (match o with | some y=>y::l | none=>l)
def o50(fc fe:Env->M (List S))(p:Pat)(ρ0:Env)(x:D):M (Option D):=M.bind (M.of (e40 p x ρ0)) λρ'=>M.bind (fc ρ') λc=>match c with
 |[]=>M.bind (fe ρ') λy=>M.bind (M.of (pl y)) λy=>M.ret (some y)|[.d (.bl true)]=>M.bind (fe ρ') λy=>M.bind (M.of (pl y)) λy=>M.ret (some y)|[.d (.bl false)]=>M.ret none|_=>M.no
def m01(k:Nat):Option (Option S)->Z->Option (R (List S))
 |some (some .z),some p=>if k=0 then some (.ok [.d (.int p.1)] (some p)) else if k=1 then some (.ok [.d (.bl p.2)] (some p)) else none|_,_=>none
abbrev FT:=Bool->Nat->List S->M S
abbrev J80(F:FT):FT:=λ_=>F true
def V61:D->Option (List Int)
 |.tup l=>j40 l|_=>none
def m11:List D->Option (List (List Int))
 |[]=>some []|x::r=>(V61 x).bind λk=>(m11 r).map (k::·)
def O31:D->Option (List (List Int))
 |.lst l=>m11 l|_=>none
def q02:Option (Option S)->Option (List (List Int))
 |some (some (.ks l))=>some l|_=>none
def ev:FT->Ex->Env->M (List S)
 |F,.nil=>λ_=>M.ret []|F,.cons a r=>λρ=>M.bind (ev F a ρ) λx=>M.bind (M.of (one x)) λs=>M.bind (ev F r ρ) λy=>M.ret (s::y)
 |F,.var i=>λρ=>match ρ[i]? with
  |some (some s)=>M.ret [plS s]|_=>M.no
 |F,.con x=>λ_=>M.ret [.d x]|F,.gint _ i=>λ_=>M.ret [.d (.int i)]|F,.tup as=>λρ=>M.bind (ev F as ρ) λl=>M.bind (M.of (plA l)) λds=>if ds.length<=most then M.ret [.d (.tup ds)] else M.no|F,.lst as=>λρ=>M.bind (ev F as ρ) λl=>M.bind (M.of (plA l)) λds=>if ds.length<=most then M.ret [.fr ds] else M.no|F,.bin o a b=>λρ=>M.bind (ev F a ρ) λx=>M.bind (M.of (pl x)) λx=>M.bind (ev F b ρ) λy=>M.bind (M.of (pl y)) λy=>M.bind (M.of (M60 o x y)) λs=>M.ret [s]|F,.cmp o a b=>λρ=>M.bind (ev F a ρ) λx=>M.bind (M.of (pl x)) λx=>M.bind (ev F b ρ) λy=>M.bind (M.of (pl y)) λy=>M.bind (M.of (C50 o x y)) λb=>M.ret [.d (.bl b)]|F,.neg a=>λρ=>M.bind (ev F a ρ) λx=>M.bind (M.of ((pl x).bind asI)) λi=>M.ret [.d (.int (-i))]|F,.not a=>λρ=>M.bind (ev F a ρ) λx=>M.bind (M.of ((pl x).bind asB)) λb=>M.ret [.d (.bl !b)]|F,.and a b=>λρ=>M.bind (ev F a ρ) λx=>M.bind (M.of ((pl x).bind asB)) λc=>if c then M.bind (ev F b ρ) λy=>M.bind (M.of ((pl y).bind asB)) λc=>M.ret [.d (.bl c)] else M.ret [.d (.bl false)]|F,.or a b=>λρ=>M.bind (ev F a ρ) λx=>M.bind (M.of ((pl x).bind asB)) λc=>if c then M.ret [.d (.bl true)] else M.bind (ev F b ρ) λy=>M.bind (M.of ((pl y).bind asB)) λc=>M.ret [.d (.bl c)]|F,.orT a b=>λρ=>M.calm (M.bind (ev F a ρ) λx=>M.bind (M.of ((pl x).bind b12)) λl=>if l.isEmpty then M.bind (ev F b ρ) λy=>M.bind (M.of ((pl y).bind b12)) λl=>M.ret [.d (.tup l)] else M.ret [.d (.tup l)])|F,.ite c a b=>λρ=>M.bind (ev F c ρ) λx=>M.bind (M.of ((pl x).bind asB)) λc=>if c then ev F a ρ else ev F b ρ
 |F,.ch o o' a b c=>λρ=>M.bind (ev F a ρ) λx=>M.bind (M.of (pl x)) λx=>M.bind (ev F b ρ) λy=>M.bind (M.of (pl y)) λy=>M.bind (M.of (C50 o x y)) λk =>
   if k then M.bind (ev F c ρ) λw=>M.bind (M.of (pl w)) λw=>M.bind (M.of (C50 o' y w)) λk=>M.ret [.d (.bl k)] else M.ret [.d (.bl false)]
 |F,.bf f as=>λρ=>M.bind (ev F as ρ) λl=>M.bind (M.of (plA l)) λds=>M.bind (M.of (bfD f ds)) λs=>M.ret [s]|F,.isi t a=>λρ=>M.bind (ev F a ρ) λx=>M.bind (M.of (pl x)) λx=>M.ret [.d (.bl (k92 t x))]|F,.idx a i=>λρ=>M.bind (ev F a ρ) λx=>M.bind (M.of (pl x)) λx=>M.bind (ev F i ρ) λy=>M.bind (M.of (pl y)) λy=>M.bind (M.of (l81 x y)) λr=>M.ret [.d r]|F,.sl a lo hi=>λρ=>M.bind (ev F a ρ) λx=>M.bind (M.of (pl x)) λx=>M.bind (ev F lo ρ) λu=>M.bind (M.of (l91 u)) λu=>M.bind (ev F hi ρ) λv=>M.bind (M.of (l91 v)) λv=>M.bind (M.of (slD x u v)) λs=>M.ret [s]|F,.call f as=>λρ=>M.bind (ev F as ρ) λl=>M.bind (F false f (l.map plS)) λs=>M.ret [s]|F,.comp own capt p it src cond el=>λρ=>M.bind (ev F src ρ) λl=>M.bind (M.of ((plA l).bind (itD it))) λxs=>if xs.length<=most then M.bind (M.calm (turns (o50 (ev F cond) (ev F el) p (ë own none++capt.map λi=>(ρ[i]?).getD none)) xs)) λys=>M.ret [.fr ys] else M.no|F,.zget i k=>λρ z=>m01 k ρ[i]? z|F,.lrng b as=>λρ=>M.bind (ev F as ρ) λl=>M.bind (M.of ((plA l).bind lrD)) λxs=>M.ret [lrS b xs]|F,.dkeys a=>λρ=>M.bind (ev F a ρ) λl=>M.bind (M.of ((pl l).bind O31)) λkss=>M.ret [.ks kss]|F,.memk o a i=>λρ=>M.bind (ev F a ρ) λl=>M.bind (M.of ((pl l).bind V61)) λk=>M.bind (M.of (q02 ρ[i]?)) λkss=>M.ret [.d (.bl (kss.contains k == o))]
def M70(ρ:Env):Env:=ρ.map λo=>match o with
 |some .z=>none|o=>o
inductive Sm where
 |nil | seq (s r:Sm)
 |set (p:Pat) (e:Ex) | ret (e:Ex) | iff (c:Ex) (t e:Sm)
 |fr (p:Pat) (it:It) (src:Ex) (b:Sm) | whl (c:Ex) (b:Sm)
 |rais (c:Nat) | exp (e:Ex)
 |app (i:Nat) (e:Ex)
 |newz (i:Nat) (f:Nat) (as:Ex) | zset (i:Nat) (e:Ex)
 |grp (i j k:Nat) (src:Ex)
def m21:List (Int × List Int)->Nat->List Int->List (Int × List Int)
 |gs,_,[]=>gs|gs,p,m::r=>m21 (d61 gs m p) (p + 1) r
def m31(ns:List Int):List D:=(m21 [] 0 ns).map λg=>.tup (g.2.map D.int)
def O41:List D->Option S
 |[.lst a]=>match j40 a with
  |some ns=>if ns.length < 1000 then some (.fr (m31 ns)) else none|none=>none
 |_=>none
inductive O where
 |nx (ρ:Env) | rt (s:S)
mutual
noncomputable def bare:D->Bool
 |.lst _=>false|.tup l=>q10 l|.dct=>false|_=>true
noncomputable def q10:List D->Bool
 |[]=>true|x::r=>bare x&&q10 r
end
def M80:S->Bool
 |.d x=>bare x|.fr xs=>q10 xs|_=>true
def S00(ρ:Env):Env:=ρ.map λo=>o.map plS
def M90(b:Bool):Option S->Option S
 |some (.fr xs)=>some (if b then .fr xs else .d (.lst xs))|o=>o
theorem N00(b:Bool)(ρ:Env):ρ.map (M90 b)=if b then ρ else S00 ρ:=by
 have h:∀ o:Option S,M90 b o=if b then o else o.map plS:=λo=>by
  match o with
  |some (.fr xs)=>cases b <;> rfl
  |some (.d _)=>cases b <;> rfl
  |some .z=>cases b <;> rfl
  |some (.ks _)=>cases b <;> rfl
  |none=>cases b <;> rfl
 rw[show M90 b=λo=>if b then o else o.map plS from funext h];cases b with
 |true=>exact Ó0 ρ|false=>rfl
def k10(s:S)(ρ:Env):Env:=ρ.map (M90 (M80 s))
def G90:Pat->S->Env->Option Env
 |p,.d x,ρ=>e40 p x ρ|.v i,s,ρ=>if i < ρ.length then some (ρ.set i (some s)) else none|_,_,_=>none
def Q20(f:D->Env->M O):List D->Env->M O
 |[],ρ=>M.ret (.nx ρ)
 |x::r,ρ=>M.bind (f x ρ) λo=>match o with
  |.nx ρ=>Q20 f r ρ|.rt s=>M.ret (.rt s)
def V71(c:Env->M (List S))(f:Env->M O):Nat->Env->M O
 |0,_=>M.no
 |n + 1,ρ=>M.bind (c ρ) λx=>M.bind (M.of ((pl x).bind asB)) λk=>if k then M.bind (f ρ) λo=>match o with
  |.nx ρ=>V71 c f n ρ|.rt s=>M.ret (.rt s)
  else M.ret (.nx ρ)
def ownAt(ρ:Env)(i:Nat):Option (List D):=match ρ[i]? with
 |some (some (.fr xs))=>some xs|_=>none
def y72(xs:List D)(i:Int)(y:D):Option (List D):=(ixN xs.length i).map λj=>xs.set j y
def O51:D->Bool
 |.tup l=>q10 l|.lst l=>q10 l|_=>true
def N10(l:List S):Bool:=match plA l with
 |some ds=>ds.all O51|none=>false
def noS:S->Option S
 |.z=>none|.ks _=>none|s=>some s
def O61:(it:It)->(e:Ex)->Option {i:Nat // it=.seq/\e=.cons (.var i) .nil}
 |.seq,.cons (.var i) .nil=>some ⟨i,rfl,rfl⟩|_,_=>none
def e11:List S->Bool
 |[]=>false|.d (.lst _)::_=>true|_::r=>e11 r
def N20(it:It)(e:Ex)(l:List S)(ρ:Env):Env:=match O61 it e with
 |some i=>ρ.set i.1 ((ρ[i.1]?.getD none).map plS)
 |none=>match e11 l with
  |true=>S00 ρ|false=>ρ
def m41(it:It)(e:Ex)(l:List S)(ρ:Env):Env:=(N20 it e l ρ).map (M90 (N10 l))
abbrev q12:Nat:=20000
def m51(tp:Bool)(ρ:Env)(i:Nat):List S->Option (R O)
 |[.fr [.int n,.bl b]]=>if tp then some (.ok (.nx ((M70 ρ).set i (some .z))) (some (n,b))) else none|_=>none
def m61(ρ:Env)(v:Int):Option (Option S)->Z->Option (R O)
 |some (some .z),some p=>some (.ok (.nx ρ) (some (v,p.2)))|_,_=>none
def ex(F:FT)(tp:Bool):Sm->Env->M O
 |.nil=>λρ=>M.ret (.nx ρ)
 |.seq s r=>λρ=>M.bind (ex F tp s ρ) λo=>match o with
  |.nx ρ=>ex F tp r ρ|.rt s=>M.ret (.rt s)
 |.set p e=>λρ=>M.bind (ev F e ρ) λl=>M.bind (M.of (one l)) λs=>M.bind (M.of (G90 p s (k10 s ρ))) λρ=>M.ret (.nx ρ)
 |.ret e=>λρ=>match e with
  |.var i=>(match ρ[i]? with
   |some (some s)=>M.bind (M.of (noS s)) λs=>M.ret (.rt s)
   |_=>M.no)
  |e=>M.bind (ev F e ρ) λl=>M.bind (M.of ((one l).bind noS)) λs=>M.ret (.rt s)
 |.iff c t e=>λρ=>M.bind (ev F c ρ) λx=>M.bind (M.of ((pl x).bind asB)) λc=>if c then ex F tp t ρ else ex F tp e ρ|.fr p it src b=>λρ=>M.bind (ev F src ρ) λl=>M.bind (M.of ((plA l).bind (itD it))) λxs=>Q20 (λx ρ=>M.bind (M.of (e40 p x ρ)) λρ=>ex F tp b ρ) xs (m41 it src l ρ)|.whl c b=>λρ=>V71 (ev F c) (ex F tp b) q12 ρ|.rais c=>λ_ z=>some (.er c z)|.exp e=>λρ=>M.bind (ev F e ρ) λl=>M.bind (M.of (one l)) λ_=>M.ret (.nx ρ)|.app i e=>λρ=>M.bind (M.of (ownAt ρ i)) λxs=>M.bind (ev F e ρ) λl=>M.bind (M.of (pl l)) λx=>if bare x=true/\xs.length < most then M.ret (.nx (ρ.set i (some (.fr (xs++[x]))))) else M.no|.newz i f as=>λρ=>M.bind (ev F (.call f as) ρ) λl=>λ_=>m51 tp ρ i l|.zset i e=>λρ=>M.bind (ev F e ρ) λl=>M.bind (M.of ((pl l).bind asI)) λv=>λz=>m61 ρ v ρ[i]? z|.grp i j k src=>λρ=>if i < ρ.length/\j < ρ.length/\k < ρ.length then M.bind (ev F (.cons src .nil) (ρ.set i none)) λl=>M.bind (M.of ((plA l).bind O41)) λs=>M.ret (.rt s) else M.no
inductive Df where
 |code (ps ns:Nat) (b:Sm) | prim (f:List S->M S)
def H00:Z->Z->Z
 |none,_=>none|some _,z=>z
def start(ns:Nat)(l:List S):Env:=l.map some++ë (ns - l.length) none
def run(F:FT):Df->List S->M S
 |.code ps ns b,l=>λz=>if l.length=ps/\ps<=ns then(match ex F z.isNone b (start ns (l.map plS)) z with
  |some (.ok (.nx _) z1)=>some (.ok (.d .non) (H00 z z1))|some (.ok (.rt s) z1)=>some (.ok s (H00 z z1))|some (.er c z1)=>some (.er c (H00 z z1))
  |none=>none) else none
 |.prim f,l=>f l
def c20(T:List Df):Nat->Nat->List S->M S
 |k + 3,f,l=>match T[f]? with
  |some d=>run (λb g m=>match b with | true=>c20 T k g m | false=>c20 T (k + 2) g m) d l
  |none=>M.no
 |_,_,_=>M.no
abbrev S10(T:List Df)(k:Nat):FT:=λb g m=>match b with | true=>c20 T (k - 2) g m | false=>c20 T k g m
theorem S20(T:List Df)(k f:Nat)(l:List S):c20 T (k + 3) f l=match T[f]? with
  |some d=>run (S10 T (k + 2)) d l|none=>M.no:=rfl
end Q
namespace Q
open PySem L2 PySem.Spec PyProof.Rows
def o60(K:Â)(H:Hp)(a:Æ)(xs:List V):Prop:=Rd H a (.lst xs)∨∃ (its:Array Ä) (n:Nat),K.lookup a=some { cls:=.type "list",data:=.seq its n }/\its.size<=sizeLine/\Vals xs its.toList
theorem o60.of{K:Â}{H:Hp}{a:Æ}{xs:List V}(h:H a=some (.lst xs)):o60 K H a xs:=.inl (.inl h)
theorem o60.sq{K:Â}{H:Hp}{a:Æ}{xs:List V}(h:o60 K H a xs):SqL K H a xs:=by
 rcases h with h | ⟨its,n,h1,h2,h3⟩
 ·exact .inl h
 ·exact .inr ⟨_,its,n,h1,rfl,rfl,rfl,h2,h3⟩
theorem o60.same{K:Â}{H H':Hp}{a:Æ}{xs:List V}(h:o60 K H a xs)(e:a10 H H'):o60 K H' a xs:=by
 rcases h with (h | ⟨o,h⟩) | h
 ·exact .inl (.inl (e _ _ h))
 ·exact .inl (.inr ⟨o,e _ _ h⟩)
 ·exact .inr h
theorem o60.mem(I:Inv X pins σ H s)(h:o60 X.K H a xs):xs.length<=sizeLine/\∃ (its:List Ä) (n:Nat),Vals xs its/\xs.length=its.length/\s.heap.get? a=some { cls:=.type "list",data:=.seq its.toArray n }:=by
 rcases h with (h | ⟨o,h⟩) | ⟨its,n,h1,h2,h3⟩
 ·exact I.o52 h
 ·obtain⟨e,z,its,n,r,e2⟩:=I.hok a _ h;exact⟨z,its,n,r,r.length,e2⟩
 ·refine⟨by rw[h3.length,È7];exact h2,its.toList,n,h3,h3.length,?_⟩
  have:=I.kIn a _ h1;rw[Í2];exact this
mutual
def Hd(K:Â)(H:Hp):D->V->Prop
 |.non,v=>v=.non|.bl b,v=>v=.bl b|.int i,v=>v=.int i|.str x,v=>v=.str x|.tup ds,v=>∃ a xs,v=.ref a/\SqT K H a xs/\HdA K H ds xs|.lst ds,v=>∃ a xs,v=.ref a/\o60 K H a xs/\HdA K H ds xs|.dct,v=>∃ a kvs,v=.ref a/\H a=some (.dK kvs)
def HdA(K:Â)(H:Hp):List D->List V->Prop
 |[],xs=>xs=[]|d::ds,xs=>∃ x r,xs=x::r/\Hd K H d x/\HdA K H ds r
end
section
variable {K:Â}{H H':Hp}
mutual
theorem Hd.same(e:a10 H H'):∀ {d:D}{v:V},Hd K H d v->Hd K H' d v
 |.non,_,h=>by unfold Hd at h ⊢;exact h|.bl _,_,h=>by unfold Hd at h ⊢;exact h|.int _,_,h=>by unfold Hd at h ⊢;exact h|.str _,_,h=>by unfold Hd at h ⊢;exact h
 |.tup ds,_,h=>by
  unfold Hd at h ⊢;obtain⟨a,xs,rfl,h1,h2⟩:=h;exact⟨a,xs,rfl,e.sqT h1,HdA.same e h2⟩
 |.lst ds,_,h=>by
  unfold Hd at h ⊢;obtain⟨a,xs,rfl,h1,h2⟩:=h;exact⟨a,xs,rfl,h1.same e,HdA.same e h2⟩
 |.dct,_,h=>by
  unfold Hd at h ⊢;obtain⟨a,kvs,rfl,h1⟩:=h;exact⟨a,kvs,rfl,e _ _ h1⟩
theorem HdA.same(e:a10 H H'):∀ {ds:List D}{xs:List V},HdA K H ds xs->HdA K H' ds xs
 |[],_,h=>by unfold HdA at h ⊢;exact h
 |d::ds,_,h=>by
  unfold HdA at h ⊢;obtain⟨x,r,rfl,h1,h2⟩:=h;exact⟨x,r,rfl,Hd.same e h1,HdA.same e h2⟩
end
mutual
theorem Hd.has:∀ {d:D}{v:V},Hd K H d v->Has K H d v
 |.non,_,h=>by unfold Hd at h;unfold Has;exact h|.bl _,_,h=>by unfold Hd at h;unfold Has;exact h|.int _,_,h=>by unfold Hd at h;unfold Has;exact h|.str _,_,h=>by unfold Hd at h;unfold Has;exact h
 |.tup ds,_,h=>by
  unfold Hd at h;unfold Has;obtain⟨a,xs,rfl,h1,h2⟩:=h;exact⟨a,xs,rfl,h1,HdA.has h2⟩
 |.lst ds,_,h=>by
  unfold Hd at h;unfold Has;obtain⟨a,xs,rfl,h1,h2⟩:=h;exact⟨a,xs,rfl,h1.sq,HdA.has h2⟩
 |.dct,_,h=>by unfold Hd at h;unfold Has;exact h
theorem HdA.has:∀ {ds:List D}{xs:List V},HdA K H ds xs->D00 K H ds xs
 |[],_,h=>by unfold HdA at h;unfold D00;exact h
 |d::ds,_,h=>by
  unfold HdA at h;unfold D00;obtain⟨x,r,rfl,h1,h2⟩:=h;exact⟨x,r,rfl,Hd.has h1,HdA.has h2⟩
end
theorem HdA.nil:HdA K H [] []:=by unfold HdA;rfl
theorem HdA.cons(h:Hd K H d x)(r:HdA K H ds xs):HdA K H (d::ds) (x::xs):=by unfold HdA;exact⟨x,xs,rfl,h,r⟩
theorem HdA.b90(h:HdA K H (d::ds) xs):∃ x r,xs=x::r/\Hd K H d x/\HdA K H ds r:=by unfold HdA at h;exact h
theorem HdA.e50(h:HdA K H [] xs):xs=[]:=by unfold HdA at h;exact h
theorem HdA.length:∀ {ds:List D}{xs:List V},HdA K H ds xs->xs.length=ds.length
 |[],_,h=>by rw[h.e50];rfl
 |d::ds,_,h=>by
  obtain⟨x,r,rfl,_,h2⟩:=h.b90;simp[h2.length]
theorem HdA.get:∀ {ds:List D}{xs:List V}{i:Nat}{d:D},HdA K H ds xs->ds[i]?=some d->∃ x,xs[i]?=some x/\Hd K H d x
 |[],_,_,_,_,e=>by simp at e
 |d::ds,_,i,d',h,e=>by
  obtain⟨y,r,rfl,h1,h2⟩:=h.b90;cases i with
  |zero=>simp at e;subst e;exact⟨y,rfl,h1⟩
  |succ i =>
   obtain⟨x',e1,e2⟩:=HdA.get (i:=i) h2 (by simpa using e)
   exact⟨x',by simpa using e1,e2⟩
theorem HdA.append:∀ {ds es:List D}{xs ys:List V},HdA K H ds xs->HdA K H es ys->HdA K H (ds++es) (xs++ys)
 |[],_,_,_,h,g=>by rw[h.e50];exact g
 |d::ds,_,_,_,h,g=>by
  obtain⟨x,r,rfl,h1,h2⟩:=h.b90;exact .cons h1 (HdA.append h2 g)
theorem HdA.take:∀ {ds:List D}{xs:List V} (n:Nat),HdA K H ds xs->HdA K H (ds.take n) (xs.take n)
 |ds,xs,0,_=>by simp;exact .nil|[],_,n + 1,h=>by rw[h.e50];simp;exact .nil
 |d::ds,_,n + 1,h=>by
  obtain⟨x,r,rfl,h1,h2⟩:=h.b90;exact .cons h1 (HdA.take n h2)
theorem HdA.drop:∀ {ds:List D}{xs:List V} (n:Nat),HdA K H ds xs->HdA K H (ds.drop n) (xs.drop n)
 |ds,xs,0,h=>by simpa using h|[],_,n + 1,h=>by rw[h.e50];simp;exact .nil
 |d::ds,_,n + 1,h=>by
  obtain⟨x,r,rfl,h1,h2⟩:=h.b90;exact HdA.drop n h2
theorem HdA.reverse:∀ {ds:List D}{xs:List V},HdA K H ds xs->HdA K H ds.reverse xs.reverse
 |[],_,h=>by rw[h.e50];simp;exact .nil
 |d::ds,_,h=>by
  obtain⟨x,r,rfl,h1,h2⟩:=h.b90;rw[Ð3,Ð3];exact(HdA.reverse h2).append (.cons h1 .nil)
theorem HdA.rep(h:HdA K H ds xs):∀ n:Nat,HdA K H (ë n ds).flatten (ë n xs).flatten
 |0=>by simp;exact .nil|n + 1=>by rw[Å7,Å7,É8,É8];exact h.append (h.rep n)
theorem HdA.set:∀ {ds:List D}{xs:List V}{d:D}{x:V} (i:Nat),HdA K H ds xs->Hd K H d x->HdA K H (ds.set i d) (xs.set i x)
 |[],_,_,_,_,h,_=>by rw[h.e50];simp;exact .nil
 |e::ds,_,d,x,i,h,g=>by
  obtain⟨y,r,rfl,h1,h2⟩:=h.b90;cases i with
  |zero=>exact .cons g h2|succ i=>exact .cons h1 (HdA.set i h2 g)
theorem HdA.ints:∀ ns:List Int,HdA K H (ns.map D.int) (ns.map V.int)
 |[]=>.nil|n::r=>.cons (by unfold Hd;rfl) (HdA.ints r)
theorem Hd.i40(h:Hd K H (.int i) v):v=.int i:=by unfold Hd at h;exact h
theorem Hd.bl_(h:Hd K H (.bl b) v):v=.bl b:=by unfold Hd at h;exact h
theorem Hd.l02(h:Hd K H .non v):v=.non:=by unfold Hd at h;exact h
theorem Hd.q22{x:Str}{v:V}(h:Hd K H (.str x) v):v=.str x:=by unfold Hd at h;exact h
theorem Hd.t90(h:Hd K H (.tup ds) v):∃ a xs,v=.ref a/\SqT K H a xs/\HdA K H ds xs:=by unfold Hd at h;exact h
theorem Hd.N30(h:Hd K H (.lst ds) v):∃ a xs,v=.ref a/\o60 K H a xs/\HdA K H ds xs:=by unfold Hd at h;exact h
theorem Hd.int:Hd K H (.int i) (.int i):=by unfold Hd;rfl
theorem Hd.bl:Hd K H (.bl b) (.bl b):=by unfold Hd;rfl
theorem Hd.non:Hd K H .non .non:=by unfold Hd;rfl
theorem Hd.str{x:Str}:Hd K H (.str x) (.str x):=by unfold Hd;rfl
theorem Hd.tup(h:SqT K H a xs)(r:HdA K H ds xs):Hd K H (.tup ds) (.ref a):=by unfold Hd;exact⟨a,xs,rfl,h,r⟩
theorem Hd.lst(h:H a=some (.lst xs))(r:HdA K H ds xs):Hd K H (.lst ds) (.ref a):=by unfold Hd;exact⟨a,xs,rfl,o60.of h,r⟩
end
def noT(H:Hp):Hp:=λb=>match H b with
 |some (.tbl _)=>none|o=>o
theorem N40(h:noT H b=some o):H b=some o/\∀ ps,o≠.tbl ps:=by
 unfold noT at h;split at h
 ·cases h
 ·rename_i n;exact⟨h,λps e=>n ps (by rw[h,e])⟩
theorem S30(h:H b=some o)(n:∀ ps,o≠.tbl ps):noT H b=some o:=by
 unfold noT;split
 ·rename_i ps e;rw[h] at e;cases e;exact absurd rfl (n ps)
 ·exact h
theorem x80(H:Hp):a10 (noT H) H:=λ_ _ h=>(N40 h).1
theorem X00(e:a10 H H'):a10 (noT H) (noT H'):=λb o h=>S30 (e b o (N40 h).1) (N40 h).2
def hz(zA:Option Æ)(H:Hp):Hp:=match zA with
 |some a=>hide a (noT H)|none=>noT H
class Tb where
 tb:List (Addr × Str)
variable [TB:Tb]
def zAt(zA:Option Æ)(z:Z)(H:Hp):Prop:=match zA,z with
 |some a,some (n,b)=>H a=some (.lst [.int n,.bl b])|none,none=>True|_,_=>False
structure d70(zA:Option Addr)(z:Z)(H:Hp):Prop where
 zat:zAt zA z H
 tab:∀ p∈TB.tb,Tab H p.1 p.2
theorem a00(zA:Option Æ)(H:Hp):a10 (hz zA H) H:=by
 cases zA with
 |none=>exact x80 H|some a=>exact a10.trans (d50 a _) (x80 H)
theorem h50(e:a10 H H'):a10 (hz zA H) (hz zA H'):=by
 cases zA with
 |none=>exact X00 e|some a=>exact z60 λb o _ h=>X00 e b o h
theorem c40(h:H b=some o)(n:zA≠some b)(ht:∀ ps,o≠.tbl ps:=by exact λ_ h=>nomatch h):hz zA H b=some o:=by
 cases zA with
 |none=>exact S30 h ht|some a=>exact l00 (S30 h ht) λe=>n (by rw[e])
theorem m30(h:hz zA H b=some o):H b=some o/\zA≠some b:=by
 cases zA with
 |none=>exact⟨x80 H b o h,λe=>nomatch e⟩
 |some a =>
  refine⟨x80 H b o (d50 a _ b o h),λe=>?_⟩;cases e;have:hide b (noT H) b=some o:=h;unfold hide at this;rw[if_pos rfl] at this;cases this
theorem l80(h:hz zA H b=some o):∀ ps,o≠.tbl ps:=by
 cases zA with
 |none=>exact(N40 h).2|some a=>exact(N40 (d50 a _ b o h)).2
structure Ext(zA:Option Addr)(H H':Hp):Prop where
 same:a10 (hz zA H) (hz zA H')
 tbl:∀ b ps,H b=some (.tbl ps)->∃ qs,H' b=some (.tbl qs)
instance {zA:Option Æ}{H H':Hp}:CoeFun (Ext zA H H') (λ_=>∀ b o,hz zA H b=some o->hz zA H' b=some o):=⟨λx=>x.same⟩
instance {zA:Option Æ}{H H':Hp}:CoeOut (Ext zA H H') (a10 (hz zA H) (hz zA H')):=⟨λx=>x.same⟩
theorem Ext.refl:Ext zA H H:=⟨a10.refl _,λb ps h=>⟨ps,h⟩⟩
theorem Ext.trans(a:Ext zA H H1)(b:Ext zA H1 H2):Ext zA H H2:=⟨a10.trans a.same b.same,λc ps h=>let ⟨qs,h1⟩:=a.tbl c ps h;b.tbl c qs h1⟩
theorem Ext.of(e:a10 H H'):Ext zA H H':=⟨h50 e,λb ps h=>⟨ps,e b _ h⟩⟩
theorem Ext.at(e:Ext zA H H')(h:H a=some o)(n:zA≠some a)(ht:∀ ps,o≠.tbl ps:=by exact λ_ h=>nomatch h):H' a=some o:=(m30 (e.same a o (c40 h n ht))).1
theorem Ext.free(e:Ext zA H H')(h:H' a=none)(n:zA≠some a):H a=none:=by
 cases q:H a with
 |none=>rfl
 |some o =>
  by_cases ht:∃ ps,o=.tbl ps
  ·obtain⟨ps,rfl⟩:=ht;obtain⟨qs,q'⟩:=e.tbl a ps q;rw[q'] at h;cases h
  ·rw[e.at q n λps z=>ht ⟨ps,z⟩] at h;cases h
theorem zAt.same(h:zAt zA z H)(e:a10 H H'):zAt zA z H':=by
 cases zA with
 |none=>cases z with
  |none=>trivial|some _=>exact h.elim
 |some a=>cases z with
  |none=>exact h.elim|some p=>exact e _ _ h
theorem d70.same(h:d70 zA z H)(e:a10 H H'):d70 zA z H':=⟨h.zat.same e,λp hp=>(h.tab p hp).same e⟩
theorem Tab.upd{H:Hp}{P a:Æ}{q:Str}{xs:List V}{o:HO}(t:Tab H P q)(h:H a=some (.lst xs)):Tab (upd H a o) P q:=by
 obtain⟨ps,e,tr,k⟩:=t;have ne:∀ {b:Æ}{u:HO},H b=some u->(∀ l,u≠.lst l)->b≠a:=λ{b u} e1 e2 z=>by
  subst z;rw[h] at e1;cases e1;exact e2 _ rfl
 refine⟨ps,by rw[a40 (ne e λ_ z=>nomatch z)];exact e,tr,λpos c hc=>?_⟩
 obtain⟨c',e1,e2⟩:=k pos c hc;exact⟨c',e1,by rw[a40 (ne e2 λ_ z=>nomatch z)];exact e2⟩
theorem d70.v91{K:Â}{zA:Option Æ}{z:Z}{H:Hp}(h:d70 zA z H){a:Æ}{xs:List V}(t:SqT K H a xs):SqT K (hz zA H) a xs:=by
 have h:=h.zat;rcases t with (t | ⟨o,t⟩) | t
 ·refine .inl (.inl (c40 t λe=>?_));subst e;cases z with
  |none=>exact h.elim
  |some p =>
   have h':H a=some (.lst [.int p.1,.bl p.2]):=h;rw[t] at h';cases h'
 ·refine .inl (.inr ⟨o,c40 t λe=>?_⟩);subst e;cases z with
  |none=>exact h.elim
  |some p =>
   have h':H a=some (.lst [.int p.1,.bl p.2]):=h;rw[t] at h';cases h'
 ·exact .inr t
theorem d70.D40(h:d70 zA z H)(n:H a=none):zA≠some a:=λe=>by
 have h:=h.zat;subst e;cases z with
 |none=>exact h.elim
 |some p =>
  have h':H a=some (.lst [.int p.1,.bl p.2]):=h;rw[n] at h';cases h'
def RvS(K:Â)(zA:Option Æ)(H0 H:Hp):S->V->Prop
 |.d x,v=>Hd K (hz zA H) x v|.fr xs,v=>∃ a ys,v=.ref a/\H0 a=none/\zA≠some a/\H a=some (.lst ys)/\HdA K (hide a (hz zA H)) xs ys|.z,v=>∃ a,zA=some a/\v=.ref a|.ks l,v=>∃ d,v=.ref d/\Q00 K (hz zA H) d l
def RvP(K:Â)(zA:Option Æ)(H:Hp):S->V->Prop
 |.d x,v=>Hd K (hz zA H) x v|.fr xs,v=>Hd K (hz zA H) (.lst xs) v|.z,v=>∃ a,zA=some a/\v=.ref a|.ks l,v=>∃ d,v=.ref d/\Q00 K (hz zA H) d l
section
variable {K:Â}{zA:Option Æ}{H0 H H':Hp}
theorem RvS.pl{s:S}{v:V}(h:RvS K zA H0 H s v):RvP K zA H s v:=by
 cases s with
 |d x=>exact h|z=>exact h|ks l=>exact h
 |fr xs =>
  obtain⟨a,ys,rfl,_,h2,h3,h4⟩:=h;exact Hd.lst (c40 h3 h2) (h4.same (d50 a _))
theorem RvP.plS{s:S}{v:V}(h:RvP K zA H s v):RvP K zA H (plS s) v:=by cases s <;> exact h
theorem RvP.mono{s:S}{v:V}(h:RvP K zA H s v)(e:Ext zA H H'):RvP K zA H' s v:=by
 cases s with
 |d x=>exact Hd.same e h|z=>exact h|ks l=>obtain⟨d,q,k⟩:=h;exact⟨d,q,k.same e.same⟩
 |fr xs=>exact Hd.same e h
theorem RvS.mono{s:S}{v:V}(h:RvS K zA H0 H s v)(e:Ext zA H H'):RvS K zA H0 H' s v:=by
 cases s with
 |d x=>exact Hd.same e h|z=>exact h|ks l=>obtain⟨d,q,k⟩:=h;exact⟨d,q,k.same e.same⟩
 |fr xs =>
  obtain⟨a,ys,rfl,h1,h2,h3,h4⟩:=h;exact⟨a,ys,rfl,h1,h2,e.at h3 h2,h4.same (z60 λb o _ q=>e b o q)⟩
theorem RvS.from{H1:Hp}{s:S}{v:V}(h:RvS K zA H1 H s v)(e:Ext zA H0 H1):RvS K zA H0 H s v:=by
 cases s with
 |d x=>exact h|z=>exact h|ks l=>exact h
 |fr xs =>
  obtain⟨a,ys,rfl,h1,h2,h3⟩:=h;exact⟨a,ys,rfl,e.free h1 h2,h2,h3⟩
theorem RvP.d_{s:S}{v:V}{x:D}(h:RvP K zA H s v)(e:plD s=some x):Hd K (hz zA H) x v:=by
 cases s with
 |d y=>cases e;exact h
 |fr xs=>cases e;exact h
 |_=>cases e
end
abbrev RvA(K:Â)(zA:Option Æ)(H:Hp):List S->List V->Prop:=Á7 (RvP K zA H)
theorem RvA.mono{K:Â}{zA:Option Æ}{H H':Hp}{l:List S}{vs:List V}(h:RvA K zA H l vs)(e:Ext zA H H'):RvA K zA H' l vs:=Á7.V51 h λ_ _ q=>q.mono e
theorem RvA.plS{K:Â}{zA:Option Æ}{H:Hp}:∀ {l:List S}{vs:List V},RvA K zA H l vs->RvA K zA H (l.map plS) vs
 |_,_,.nil=>.nil|_,_,.cons r t=>.cons r.plS (RvA.plS t)
theorem RvA.ds{K:Â}{zA:Option Æ}{H:Hp}:∀ {l:List S}{vs:List V}{ds:List D},RvA K zA H l vs->plA l=some ds->HdA K (hz zA H) ds vs
 |_,_,_,.nil,e=>by cases e;exact .nil
 |.d x::r,_,_,.cons h t,e=>by
  simp only[plA,Ð9] at e;obtain⟨l,e,rfl⟩:=e;exact .cons h (RvA.ds t e)
 |.fr x::r,_,_,.cons h t,e=>by
  simp only[plA,Ð9] at e;obtain⟨l,e,rfl⟩:=e;exact .cons h (RvA.ds t e)
 |.z::r,_,_,.cons h t,e=>by simp[plA] at e|.ks _::r,_,_,.cons h t,e=>by simp[plA] at e
theorem f70(h:pl l=some x):∃ s,l=[s]/\plD s=some x:=by
 unfold pl at h;split at h
 ·exact⟨_,rfl,h⟩
 ·exact⟨_,rfl,h⟩
 ·cases h
theorem M.bind_some{α β:Type}{m:M α}{f:α->M β}{z:Z}{r:R β}(h:M.bind m f z=some r):(∃ a z1,m z=some (.ok a z1)/\f a z1=some r)∨(∃ c z1,m z=some (.er c z1)/\r=.er c z1):=by
 unfold M.bind at h;split at h
 ·exact .inl ⟨_,_,by assumption,h⟩
 ·cases h;exact .inr ⟨_,_,by assumption,rfl⟩
 ·cases h
theorem M.a30{α β:Type}{o:Option α}{f:α->M β}{z:Z}{r:R β}(h:M.bind (M.of o) f z=some r):∃ a,o=some a/\f a z=some r:=by
 cases o with
 |none=>cases h
 |some a=>exact⟨a,rfl,h⟩
end Q
set_option exponentiation.threshold 5000
namespace Q
open PySem L2 PySem.Spec PyProof.Rows
variable [TB:Tb]
section
variable {K:Â}{zA:Option Æ}{z:Z}{H:Hp}
theorem A51(hp:H p=none):a10 (hz zA H) (hide p (hz zA (upd H p o))):=λb u e=>by
 obtain⟨e1,e2⟩:=m30 e;have hb:b≠p:=λq=>by subst q;rw[hp] at e1;cases e1
 exact l00 (c40 (by rw[a40 hb];exact e1) e2 (l80 e)) hb
theorem h60:RvS K zA H0 H (.d (.int i)) (.int i):=Hd.int (K:=K) (H:=hz zA H)
theorem f80:RvS K zA H0 H (.d (.bl b)) (.bl b):=Hd.bl (K:=K) (H:=hz zA H)
theorem w01(h:Hd K (hz zA H) x v):RvS K zA H0 H (.d x) v:=h
theorem p00(st:d70 zA z H)(h:HdA K (hz zA H) xs ys)(hp:H p=none):RvS K zA H (upd H p (.lst ys)) (.fr xs) (.ref p) :=
 ⟨p,ys,rfl,hp,st.D40 hp,b10,h.same (A51 hp)⟩
theorem tupQ(st:d70 zA z H)(h:HdA K (hz zA H) xs ys)(q:∀ v H',a10 H H'->RvS K zA H H' (.d (.tup xs)) v->Q v H'):z71 K H ys Q :=
 λp H' sm hq=>q _ _ sm (w01 (Hd.tup ((st.same sm).v91 hq) (h.same (h50 sm))))
end
def rD2(K:Â)(f:D->D->Option S):R2:=λx y H Q=>∃ zA z dx dy s,d70 zA z H/\Hd K (hz zA H) dx x/\Hd K (hz zA H) dy y/\f dx dy=some s/\∀ v H',a10 H H'->RvS K zA H H' s v->Q v H'
def rDn(K:Â)(f:List D->Option S):List V->Hp->VK->Prop:=λxs H Q=>∃ zA z ds s,d70 zA z H/\HdA K (hz zA H) ds xs/\f ds=some s/\∀ v H',a10 H H'->RvS K zA H H' s v->Q v H'
section
variable {X:Cx}
theorem bits_le(h:k.natAbs < l41):Ü4 k<=4000:=by
 unfold Ü4;split
 ·exact Å2 _
 ·have hn:k.natAbs < 2 ^ 4000:=h;have:k.natAbs.log2 < 4000:=by
   rcases Nat.eq_zero_or_pos k.natAbs with h0 | hp
   ·rw[h0];decide
   ·exact(Nat.log2_lt (Ò8 hp)).mpr hn
  omega
theorem b22(hi:i.natAbs < l41)(hj:j.natAbs < l41):IntMulOk i j:=by
 have h1:=bits_le hi;have h2:=bits_le hj;unfold IntMulOk;intro h;rw[Á] at h;have h3:=h.2;unfold Â0.Int.intTooBig at h3;simp only[decide_eq_true_eq] at h3;have:(8000:Nat) < bitsLine:=by decide
 omega
theorem m71(hj:j.natAbs < l41):Â0.divisionGoesByPylong i j=false:=by
 refine PyProof.noPylong_of_log2 ?_;rcases Nat.eq_zero_or_pos j.natAbs with h0 | hp
 ·rw[h0];decide
 ·have:j.natAbs.log2 < 4000:=(Nat.log2_lt (Ò8 hp)).mpr hj;omega
theorem f90(h:n<=most):n<=sizeLine:=Ô h (by rw[À8];decide)
def q32(K:Â):R2:=λx y H Q=>∃ l b xs zs,x=.ref l/\y=.ref b/\o60 K H l xs/\o60 K H b zs/\xs.length + zs.length<=sizeLine/\∀ p,H p=none->Q (.ref p) (upd H p (.lst (xs++zs)))
def q42(K:Â):R2:=λx y H Q=>∃ l k xs,x=.ref l/\y=.int k/\o60 K H l xs/\-(2 ^ 63)<=k/\k < 2 ^ 63/\xs.length * k.toNat<=sizeLine/\∀ p,H p=none->Q (.ref p) (upd H p (.lst (ë k.toNat xs).flatten))
theorem O71:OpR X (Â6 .Add) (q32 X.K):=by
 intro pins s σ H x y v u Q I rx ry h;obtain⟨l,b,xs,zs,rfl,rfl,hH,hB,hz,q⟩:=h;cases rx;cases ry;obtain⟨z,its,n,r,hl,e⟩:=hH.mem I;obtain⟨z2,its2,n2,r2,hl2,e2⟩:=hB.mem I;refine PySem.P.add_list e e2 ?_ (by rw[Ó,Ó];omega)
 have ea:its.toArray++its2.toArray=(its++its2).toArray:=by simp
 rw[ea];exact⟨.ref _,_,I.x82 (t':=s.toks) (r.append r2) (by rw[À5];omega),rfl,q _ I.fresh⟩
theorem O81:OpR X (Â6 .Mult) (q42 X.K):=by
 intro pins s σ H x y v u Q I rx ry h;obtain⟨l,k,xs,rfl,rfl,hH,h1,h2,hz,q⟩:=h;cases rx;obtain⟨t,rfl⟩:=ry;obtain⟨z,its,n,r,hl,e⟩:=hH.mem I;have hlen:its.toArray.size * k.toNat<=sizeLine:=by rw[Ó,← hl];exact hz
 have hcap:¬ its.toArray.size * k.toNat > (2 ^ 63 - 1) / 8:=by
  have:(sizeLine:Nat)<=(2 ^ 63 - 1) / 8:=by decide
  omega
 have hfit:¬ (!Â0.List.listFitsIndex k)=true:=by
  rw[fitsIndex_both h1 h2];exact Ò
 have hlong:¬ Ë5 (its.toArray.size * k.toNat)=true:=by
  rw[x51 hlen];exact Ò
 have hnew:foldl (λx1 x2=>x1++x2) #[] (ë (if its.toArray.isEmpty=true then 0 else k.toNat) its.toArray)=(ë k.toNat its).flatten.toArray:=by
  have f0:∀ m:Nat,foldl (λx1 x2=>x1++x2) #[] (ë m its.toArray)=(ë m its).flatten.toArray:=λm=>by
   have:=foldl_rep its m [];rw[Ð4] at this;exact this
  rw[f0];cases its with
  |nil=>simp|cons a r'=>rw[if_neg (by simp)]
 refine wpAny_binaryOp_repeat_ref (T:="list") (U:="int") (-0) ⟨_,e,rfl⟩ (λs'=>Ø7 s' k t) noFill_list_mul F.fills_int_mul Ñ8 repeat_list F.slot_int_index.lookup
  (Ç1 Ñ8 (Ø7 s k t) F.entry_int_rmul (F.args_int_rmul_2 _ _) (int___rmul___int_list k t l its.toArray n)
   ⟨e,rfl,⟨_,e,rfl⟩,Ç1 F.slot_list_mul ⟨_,e,rfl⟩ F.entry_list_mul (F.args_list_mul_2 _ _) (AutoListH.list___mul___list_int_3 l its.toArray n k t hfit hcap hlong) ⟨e,?_⟩⟩)
 rw[hnew];exact⟨.ref _,_,I.x82 (t':=s.toks) (r.rep k.toNat) (by rw[len_rep,Ö2];exact hz),rfl,q _ I.fresh⟩
theorem O91:OpR X (Â6 .Add) (rD2 X.K (M60 .add)):=by
 intro pins s σ H x y v u Q I rx ry h;obtain⟨zA,z,dx,dy,w,st,hx,hy,e,q⟩:=h;cases dx with
 |int i =>
  cases dy with
  |int j =>
   cases e;cases hx.i40;cases hy.i40;exact Y21 pins s σ H _ _ v u Q I rx ry ⟨i,j,rfl,rfl,q _ _ (a10.refl H) h60⟩
  |_=>cases e
 |tup a =>
  cases dy with
  |tup b =>
   obtain⟨hl,e⟩:=f10 e;cases e;obtain⟨p,xs,rfl,h1,h2⟩:=hx.t90;obtain⟨p',ys,rfl,h3,h4⟩:=hy.t90;exact M71 pins s σ H _ _ v u Q I rx ry ⟨p,p',xs,ys,rfl,rfl,(a00 zA H).sqT h1,(a00 zA H).sqT h3,f90 (by rw[h2.length,h4.length];exact hl),tupQ st (h2.append h4) q⟩
  |_=>cases e
 |lst a =>
  cases dy with
  |lst b =>
   obtain⟨hl,e⟩:=f10 e;cases e;obtain⟨p,xs,rfl,h1,h2⟩:=hx.N30;obtain⟨p',ys,rfl,h3,h4⟩:=hy.N30;exact O71 pins s σ H _ _ v u Q I rx ry ⟨p,p',xs,ys,rfl,rfl,h1.same (a00 zA H),h3.same (a00 zA H),f90 (by rw[h2.length,h4.length];exact hl),λr hr=>q _ _ (a10.new _ hr) (p00 st (h2.append h4) hr)⟩
  |_=>cases e
 |_=>cases e
theorem P01:OpR X (Â6 .Sub) (rD2 X.K (M60 .sub)):=by
 intro pins s σ H x y v u Q I rx ry h;obtain⟨zA,z,dx,dy,w,st,hx,hy,e,q⟩:=h;cases dx with
 |int i =>
  cases dy with
  |int j =>
   cases e;cases hx.i40;cases hy.i40;exact Y31 pins s σ H _ _ v u Q I rx ry ⟨i,j,rfl,rfl,q _ _ (a10.refl H) h60⟩
  |_=>cases e
 |_=>cases e
theorem P11:OpR X (Â6 .Mult) (rD2 X.K (M60 .mul)):=by
 intro pins s σ H x y v u Q I rx ry h;obtain⟨zA,z,dx,dy,w,st,hx,hy,e,q⟩:=h;cases dx with
 |int i =>
  cases dy with
  |int j =>
   obtain⟨hl,e⟩:=f10 e;cases e;cases hx.i40;cases hy.i40;obtain⟨t,rfl⟩:=rx;obtain⟨t',rfl⟩:=ry;exact mul_int ⟨.int (i * j),H,I.tok _,⟨_,rfl⟩,q _ _ (a10.refl H) h60⟩ (b22 hl.1 hl.2)
  |_=>cases e
 |tup a =>
  cases dy with
  |int j =>
   obtain⟨hl,e⟩:=f10 e;cases e;cases hy.i40;obtain⟨p,xs,rfl,h1,h2⟩:=hx.t90;exact M81 pins s σ H _ _ v u Q I rx ry ⟨p,j,xs,rfl,rfl,(a00 zA H).sqT h1,hl.1,hl.2.2,f90 (by rw[h2.length];exact hl.2.1),tupQ st (h2.rep _) q⟩
  |_=>cases e
 |lst a =>
  cases dy with
  |int j =>
   obtain⟨hl,e⟩:=f10 e;cases e;cases hy.i40;obtain⟨p,xs,rfl,h1,h2⟩:=hx.N30;exact O81 pins s σ H _ _ v u Q I rx ry ⟨p,j,xs,rfl,rfl,h1.same (a00 zA H),by omega,by omega,f90 (by rw[h2.length,Ö2];exact hl.2.1),λr hr=>q _ _ (a10.new _ hr) (p00 st (h2.rep _) hr)⟩
  |_=>cases e
 |_=>cases e
theorem A61:OpR X (Â6 .FloorDiv) (rD2 X.K (M60 .fdiv)):=by
 intro pins s σ H x y v u Q I rx ry h;obtain⟨zA,z,dx,dy,w,st,hx,hy,e,q⟩:=h;cases dx with
 |int i =>
  cases dy with
  |int j =>
   obtain⟨hl,e⟩:=f10 e;cases e;cases hx.i40;cases hy.i40;obtain⟨t,rfl⟩:=rx;obtain⟨t',rfl⟩:=ry;refine floordiv_int ∅ ⟨.int (i / j),H,I.tok _,⟨s.toks,?_⟩,q _ _ (a10.refl H) h60⟩ (.inl (m71 hl.2))
   rw[Int.fdiv_eq_ediv_of_nonneg _ ∅]
  |_=>cases e
 |_=>cases e
theorem P21:OpR X (Â6 .Mod) (rD2 X.K (M60 .mod)):=by
 intro pins s σ H x y v u Q I rx ry h;obtain⟨zA,z,dx,dy,w,st,hx,hy,e,q⟩:=h;cases dx with
 |int i =>
  cases dy with
  |int j =>
   obtain⟨hl,e⟩:=f10 e;cases e;cases hx.i40;cases hy.i40;exact Y41 pins s σ H _ _ v u Q I rx ry ⟨i,j,rfl,rfl,hl,q _ _ (a10.refl H) h60⟩
  |_=>cases e
 |_=>cases e
theorem P31:OpR X (Â6 .Pow) (rD2 X.K (M60 .pow)):=by
 intro pins s σ H x y v u Q I rx ry h;obtain⟨zA,z,dx,dy,w,st,hx,hy,e,q⟩:=h;cases dx with
 |int i =>
  cases dy with
  |int j =>
   obtain⟨hl,e⟩:=f10 e;cases e;cases hx.i40;cases hy.i40;exact Y51 pins s σ H _ _ v u Q I rx ry ⟨i,j,rfl,rfl,⟨hl.1,by omega,hl.2.2⟩,q _ _ (a10.refl H) h60⟩
  |_=>cases e
 |_=>cases e
theorem P41:OpR X (Â6 .LShift) (rD2 X.K (M60 .shl)):=by
 intro pins s σ H x y v u Q I rx ry h;obtain⟨zA,z,dx,dy,w,st,hx,hy,e,q⟩:=h;cases dx with
 |int i =>
  cases dy with
  |int j =>
   obtain⟨hl,e⟩:=f10 e;cases e;cases hx.i40;cases hy.i40;exact Y61 pins s σ H _ _ v u Q I rx ry ⟨i,j,rfl,rfl,⟨hl.1,by omega,hl.2.2⟩,q _ _ (a10.refl H) h60⟩
  |_=>cases e
 |_=>cases e
def opB:Bi->Û3
 |.add=>.Add | .sub=>.Sub | .mul=>.Mult | .fdiv=>.FloorDiv | .mod=>.Mod | .pow=>.Pow | .shl=>.LShift
theorem opD(o:Bi):OpR X (Â6 (opB o)) (rD2 X.K (M60 o)):=by
 cases o
 ·exact O91
 ·exact P01
 ·exact P11
 ·exact A61
 ·exact P21
 ·exact P31
 ·exact P41
mutual
noncomputable def toP:D->PyData
 |.non=>.none|.bl b=>.bool b|.int i=>.int i|.str x=>.str x|.tup l=>.tuple (J90 l)|.lst l=>.list (J90 l)|.dct=>.none
noncomputable def J90:List D->List PyData
 |[]=>[]|x::r=>toP x::J90 r
end
end
end Q
namespace Q
open PySem L2 PySem.Spec PyProof.Rows
variable [TB:Tb]
mutual
theorem N50:∀ a b:D,u30 a=true->u30 b=true->Ù9 (toP a) (toP b)=eqD a b
 |.non,b,_,h=>by cases b <;> first | rfl | (simp[u30] at h)
 |.bl _,b,_,h=>by cases b <;> first | rfl | (simp[u30] at h)
 |.int _,b,_,h=>by cases b <;> first | rfl | (simp[u30] at h)
 |.str _,b,_,h=>by cases b <;> first | rfl | (simp[u30] at h)
 |.tup l,b,ha,h=>by
  cases b with
  |tup q =>
   exact S40 l q (by simpa [u30] using ha) (by simpa [u30] using h)
  |dct=>simp[u30] at h|_=>rfl
 |.lst l,b,ha,h=>by
  cases b with
  |lst q =>
   exact S40 l q (by simpa [u30] using ha) (by simpa [u30] using h)
  |dct=>simp[u30] at h|_=>rfl
 |.dct,_,h,_=>by simp[u30] at h
theorem S40:∀ a b:List D,f60 a=true->f60 b=true->PyData.eqvAll (J90 a) (J90 b)=O11 a b
 |[],[],_,_=>rfl|[],_::_,_,_=>rfl|_::_,[],_,_=>rfl
 |x::r,y::q,ha,hb=>by
  simp only[f60,Á] at ha hb;simp only[J90,PyData.eqvAll,O11];rw[N50 x y ha.1 hb.1,S40 r q ha.2 hb.2]
end
mutual
theorem w20:∀ a:D,u30 a=true->(toP a).canLay0=true
 |.non,_=>rfl|.bl _,_=>rfl|.int _,_=>rfl|.str _,h=>h|.tup l,h=>q20 l h|.lst l,h=>q20 l h|.dct,h=>by cases h
theorem q20:∀ a:List D,f60 a=true->PyData.canLayAll0 (J90 a)=true
 |[],_=>rfl
 |x::r,h=>by
  simp only[f60,Á] at h;simp only[J90,PyData.canLayAll0,w20 x h.1,q20 r h.2,Bool.and_self]
end
mutual
theorem H10:∀ a:D,(toP a).depth=deep a
 |.non=>rfl|.bl _=>rfl|.int _=>rfl|.str _=>rfl|.tup l=>congrArg (· + 1) (H20 l)|.lst l=>congrArg (· + 1) (H20 l)|.dct=>rfl
theorem H20:∀ a:List D,Ï2 (J90 a)=i60 a
 |[]=>rfl
 |x::r=>by
  simp only[J90,Ï2,i60];rw[H10 x,H20 r]
end
def e21(h:ï)(u:Ä)(d:D):Prop:=u30 d=true/\∃ as,Reads h u (toP d) as
def d90(h:ï)(us:List Ä)(ds:List D):Prop:=f60 ds=true/\∃ as,ReadsAll h us (J90 ds) as
section
variable {X:Cx}{pins:List (Æ × Obj)}{σ:L2.St}{H:Hp}{s:Å}
mutual
theorem h70(I:Inv X pins σ H s):∀ {d:D}{v:V}{u:Ä},Hd X.K H d v->RelV v u->u30 d=true->∃ as,Reads s.heap u (toP d) as
 |.non,_,_,h,r,_=>by cases h.l02;cases r;exact⟨_,.none⟩
 |.bl b,_,_,h,r,_=>by cases h.bl_;cases r;exact⟨_,.bool b⟩
 |.int i,_,_,h,r,_=>by cases h.i40;obtain⟨t,rfl⟩:=r;exact⟨_,.int i t⟩
 |.str x,_,_,h,r,_=>by cases h.q22;obtain⟨t,rfl⟩:=r;exact⟨_,.str x t⟩
 |.tup l,_,_,h,r,f=>by
  obtain⟨a,xs,rfl,h1,h2⟩:=h.t90;cases r;obtain⟨its,rv,⟨o,e1,e2,n,e3⟩,_⟩:=I.tuple h1;obtain⟨as,ra⟩:=A00 I h2 rv f;exact⟨_,.tuple e1 e2 e3 (by simpa using ra)⟩
 |.lst l,_,_,h,r,f=>by
  obtain⟨a,xs,rfl,h1,h2⟩:=h.N30;cases r;obtain⟨its,rv,⟨o,n,e1,e2,_,e3⟩,_⟩:=I.list h1.sq;obtain⟨as,ra⟩:=A00 I h2 rv f;exact⟨_,.list e1 e2 e3 (by simpa using ra)⟩
 |.dct,_,_,_,_,f=>by cases f
theorem A00(I:Inv X pins σ H s):∀ {ds:List D}{vs:List V}{us:List Ä},HdA X.K H ds vs->Vals vs us->f60 ds=true->∃ as,ReadsAll s.heap us (J90 ds) as
 |[],_,_,h,r,_=>by cases h.e50;cases r;exact⟨_,.nil⟩
 |d::ds,_,_,h,r,f=>by
  obtain⟨x,xs,rfl,h1,h2⟩:=h.b90;cases r with
  |cons r1 r2 =>
   simp only[f60,Á] at f;obtain⟨_,a1⟩:=h70 I h1 r1 f.1;obtain⟨_,a2⟩:=A00 I h2 r2 f.2;exact⟨_,.cons a1 a2⟩
end
end
theorem m40(h:okD d=true):u30 d=true/\SeqAt.shaped (toP d)=true:=by
 unfold okD at h;rw[Á,decide_eq_true_eq] at h;refine⟨h.1,?_⟩;unfold SeqAt.shaped;rw[w20 d h.1,H10,Æ2,decide_eq_true_eq];omega
section
variable {X:Cx}
theorem b32(h:eqE a b=some c):∃ l,a=.tup l/\b=.tup []/\c=l.isEmpty:=by
 unfold eqE at h;split at h
 ·cases h;exact⟨_,rfl,rfl,rfl⟩
 ·cases h
theorem b42(hu:X.A.units + 64 < Â4):OpR X (ö .Eq) (rD2 X.K λa b=>(eqQ a b).map λc=>.d (.bl c)):=by
 intro pins s σ H x y v u Q I rx ry h;obtain⟨zA,z,dx,dy,w,st,hx,hy,e,q⟩:=h;unfold eqQ at e;dsimp only at e;split at e
 ·rename_i ok;cases e;rw[Á] at ok;obtain⟨f1,s1⟩:=m40 ok.1;obtain⟨f2,s2⟩:=m40 ok.2;obtain⟨as,r1⟩:=h70 I (hx.same (a00 zA H)) rx f1;obtain⟨bs,r2⟩:=h70 I (hy.same (a00 zA H)) ry f2;exact eq_dataH r1 r2 s1 s2 hu ⟨.bl _,H,I,rfl,by rw[N50 dx dy f1 f2];exact q _ _ (a10.refl H) f80⟩
 ·obtain⟨c,h1,h2⟩:=Ê.mp e;obtain⟨l,rfl,rfl,rfl⟩:=b32 h1;subst h2;obtain⟨a,xs,rfl,k1,k2⟩:=hx.t90;obtain⟨b,ys,rfl,k3,k4⟩:=hy.t90;cases k4.e50;cases rx;cases ry;obtain⟨its,rv,ht,_⟩:=I.tuple ((a00 zA H).sqT k1);obtain⟨iu,ru,hu2,_⟩:=I.tuple ((a00 zA H).sqT k3);cases ru;have e1:its.length=l.length:=by rw[← rv.length,k2.length]
  refine SeqAt.eq_tupleAt (e:=λ_=>true) ht hu2 ∅ (λj _ h2=>absurd h2 (Ò6 j)) ⟨.bl _,H,I,rfl,?_⟩
  have e2:((í (min its.toArray.size ([]:List Ä).toArray.size)).all (λ_=>true)&&its.toArray.size == ([]:List Ä).toArray.size)=l.isEmpty:=by
   simp only[Ó,Ä2,Nat.min_zero,List.range_zero,List.all_nil,Æ2,e1];cases l <;> rfl
  rw[e2];exact q _ _ (a10.refl H) f80
theorem b52(hu:X.A.units + 64 < Â4):OpR X (ö .NotEq) (rD2 X.K λa b=>(eqO a b).map λc=>.d (.bl !c)):=by
 intro pins s σ H x y v u Q I rx ry h;obtain⟨zA,z,dx,dy,w,st,hx,hy,e,q⟩:=h;unfold eqO at e;dsimp only at e;split at e
 ·rename_i ok;cases e;rw[Á] at ok;obtain⟨f1,s1⟩:=m40 ok.1;obtain⟨f2,s2⟩:=m40 ok.2;obtain⟨as,r1⟩:=h70 I (hx.same (a00 zA H)) rx f1;obtain⟨bs,r2⟩:=h70 I (hy.same (a00 zA H)) ry f2;exact ne_dataH r1 r2 s1 s2 hu ⟨.bl _,H,I,rfl,by rw[N50 dx dy f1 f2];exact q _ _ (a10.refl H) f80⟩
 ·cases e
theorem P51(hu:X.A.units + 64 < Â4):OpR X (ö .NotEq) (rD2 X.K λa b=>(neO a b).map λc=>.d (.bl c)):=by
 intro pins s σ H x y v u Q I rx ry h;obtain⟨zA,z,dx,dy,w,st,hx,hy,e,q⟩:=h;unfold neO at e;dsimp only at e;split at e
 ·cases e;unfold Hd at hx;obtain⟨a,kvs,rfl,h1⟩:=hx;obtain⟨b,xs,rfl,h2,_⟩:=hy.t90;exact N21 hu pins s σ H _ _ v u Q I rx ry ⟨a,b,kvs,xs,rfl,rfl,(m30 h1).1,(a00 zA H).sqT h2,q _ _ (a10.refl H) f80⟩
 ·refine b52 hu pins s σ H _ _ v u Q I rx ry ⟨zA,z,dx,dy,w,st,hx,hy,?_,q⟩;rw[← e,Option.map_map];rfl
end
theorem H30(h:H61 l=true):f60 l=true/\i60 l<=39:=by
 unfold H61 at h;rw[Á,decide_eq_true_eq] at h;exact h
theorem H40(h:okD d=true):deep d<=40:=by
 unfold okD at h;rw[Á,decide_eq_true_eq] at h;exact h.2
theorem A10(x:D)(fx:u30 x=true):∀ l:List D,f60 l=true->((J90 l).any λy=>Ù9 y (toP x))=memD x l
 |[],_=>rfl
 |y::r,h=>by
  simp only[f60,Á] at h;show(Ù9 (toP y) (toP x) || (J90 r).any λy=>Ù9 y (toP x))=(eqD y x || memD x r);rw[N50 y x h.1 fx,A10 x fx r h.2]
section
variable {X:Cx}
theorem H50(h:e01 x l=some b):okD x=true/\H61 l=true/\b=memD x l:=by
 unfold e01 at h;split at h
 ·rename_i ok;rw[Á] at ok;cases h;exact⟨ok.1,ok.2,rfl⟩
 ·cases h
theorem room_in{A:ü}(hu:A.units + 64 < Â4){l:List D}{x:D}(h:okD x=true):A.units + 1 + min (Ï2 (J90 l)) (toP x).depth < cLine:=by
 have h1:=H40 h;have h2:min (Ï2 (J90 l)) (toP x).depth<=(toP x).depth:=Nat.min_le_right _ _;have h3:=H10 x;omega
theorem P61(hu:X.A.units + 64 < Â4):OpR X (ö .In) (rD2 X.K λa b=>(C50 .mem a b).map λc=>.d (.bl c)):=by
 intro pins s σ H x y v u Q I rx ry h;obtain⟨zA,z,dx,dy,w,st,hx,hy,e,q⟩:=h;cases dy with
 |tup l =>
  obtain⟨b,e1,e2⟩:=Ê.mp e;subst e2;obtain⟨o1,o2,rfl⟩:=H50 e1;obtain⟨f2,_⟩:=H30 o2;obtain⟨f1,_⟩:=m40 o1;obtain⟨as,r1⟩:=h70 I (hx.same (a00 zA H)) rx f1;obtain⟨bs,r2⟩:=h70 I (hy.same (a00 zA H)) ry (by simpa [u30] using f2)
  exact SeqAt.in_tuple_reads r2 r1 (q20 l f2) (w20 dx f1) (room_in hu o1) ⟨.bl _,H,I,rfl,by rw[A10 dx f1 l f2];exact q _ _ (a10.refl H) f80⟩
 |lst l =>
  obtain⟨b,e1,e2⟩:=Ê.mp e;subst e2;obtain⟨o1,o2,rfl⟩:=H50 e1;obtain⟨f2,_⟩:=H30 o2;obtain⟨f1,_⟩:=m40 o1;obtain⟨as,r1⟩:=h70 I (hx.same (a00 zA H)) rx f1;obtain⟨bs,r2⟩:=h70 I (hy.same (a00 zA H)) ry (by simpa [u30] using f2)
  exact SeqAt.in_list_reads r2 r1 (q20 l f2) (w20 dx f1) (room_in hu o1) ⟨.bl _,H,I,rfl,by rw[A10 dx f1 l f2];exact q _ _ (a10.refl H) f80⟩
 |_=>cases e
theorem A71(hu:X.A.units + 64 < Â4):OpR X (ö .NotIn) (rD2 X.K λa b=>(C50 .nmem a b).map λc=>.d (.bl c)):=by
 intro pins s σ H x y v u Q I rx ry h;obtain⟨zA,z,dx,dy,w,st,hx,hy,e,q⟩:=h;cases dy with
 |tup l =>
  obtain⟨b,e1,e2⟩:=Ê.mp e;subst e2;obtain⟨b',e3,rfl⟩:=Ê.mp e1;obtain⟨o1,o2,rfl⟩:=H50 e3;obtain⟨f2,_⟩:=H30 o2;obtain⟨f1,_⟩:=m40 o1;obtain⟨as,r1⟩:=h70 I (hx.same (a00 zA H)) rx f1;obtain⟨bs,r2⟩:=h70 I (hy.same (a00 zA H)) ry (by simpa [u30] using f2)
  exact SeqAt.notIn_tuple_reads r2 r1 (q20 l f2) (w20 dx f1) (room_in hu o1) ⟨.bl _,H,I,rfl,by rw[A10 dx f1 l f2];exact q _ _ (a10.refl H) f80⟩
 |lst l =>
  obtain⟨b,e1,e2⟩:=Ê.mp e;subst e2;obtain⟨b',e3,rfl⟩:=Ê.mp e1;obtain⟨o1,o2,rfl⟩:=H50 e3;obtain⟨f2,_⟩:=H30 o2;obtain⟨f1,_⟩:=m40 o1;obtain⟨as,r1⟩:=h70 I (hx.same (a00 zA H)) rx f1;obtain⟨bs,r2⟩:=h70 I (hy.same (a00 zA H)) ry (by simpa [u30] using f2)
  exact SeqAt.notIn_list_reads r2 r1 (q20 l f2) (w20 dx f1) (room_in hu o1) ⟨.bl _,H,I,rfl,by rw[A10 dx f1 l f2];exact q _ _ (a10.refl H) f80⟩
 |_=>cases e
end
end Q
namespace Q
open PySem L2 PySem.Spec PyProof.Rows
variable [TB:Tb]
def q52(A:ü)(s:Å)(v u:Ä)(b:Bool):Prop:=∀ (P:â) (w:õ) (E:Ä->Å->Prop) (Q:Ä->Å->Prop),Q (.bool b) s->Ñ (Ø P w) A (richCompare .Lt v u) Q E s
section
open PySem.SeqAt
open PySem.AutoSeq1 (wpAny_loadPart')
open PySem.MeetsSeq PySem.MeetsSeq2 PySem.MeetsSeq3
inductive Lx (A:Around) (s:Shared):List Value->List Value->Bool->Prop
 |nn:Lx A s [] [] false
 |nc {u us}:Lx A s [] (u::us) true
 |cn {v vs}:Lx A s (v::vs) [] false
 |eq {v u vs us b}:EqAt A s v u true->Lx A s vs us b->Lx A s (v::vs) (u::us) b
 |ne {v u vs us b}:EqAt A s v u false->q52 A s v u b->Lx A s (v::vs) (u::us) b
theorem A20(l b:Æ)(items items2:Array Ä)(n n2:Nat)(dd dd2:Option Æ)(sl sl2:Array (Option Ä))(c:Bool) :
  Meets (Â0.«tuple.__lt__» ⟨[.ref l,.ref b],[]⟩)
   (λA R s=>s.heap.get? l=some { cls:=.type "tuple",dict:=dd,data:=.seq items n,slots:=sl }/\s.heap.get? b=some { cls:=.type "tuple",dict:=dd2,data:=.seq items2 n2,slots:=sl2 } /\
    Lx A.in1 s items.toList items2.toList c/\R (.ok (.ret (.bool c))) s) :=
 .of_wp λprog w A R s h=>by
  obtain⟨hp,g,d,tk,os⟩:=s;obtain⟨hl,hb,hx,h⟩:=h;have f2:=Ú2
  wp_walk using Ã3 hl,Ã3 hb,wpAny_forIn_list _ (λrest b s'=>b.1=none/\s'=⟨hp,g,d,tk,os⟩/\∃ (vs ws:List Ä),rest=vs.zip ws /\
   vs.length + items2.size=ws.length + items.size/\Lx A.in1 ⟨hp,g,d,tk,os⟩ vs ws c) _
  case turn =>
   rintro ⟨y,x⟩ rest b s' ⟨hb',rfl,vs,ws,hz,hlen,hR⟩;cases hR with
   |nn=>rw[Õ8] at hz;cases hz
   |nc=>rw[Õ8] at hz;cases hz
   |cn=>rw[List.zip_nil_right] at hz;cases hz
   |eq he hr =>
    rw[È5] at hz;injection hz with hyx hrest;injection hyx with hy hx';subst hy hx';simp only[ß] at hlen;refine À (he prog w _ _ ?_)
    wp_walk
    exact⟨rfl,rfl,_,_,hrest,by omega,hr⟩
   |ne he hr =>
    rw[È5] at hz;injection hz with hyx hrest;injection hyx with hy hx';subst hy hx';refine À (he prog w _ _ ?_);have hri:=λE Q q=>hr prog w E Q q
    wp_walk using hri
    exact⟨_,rfl,by simpa using h⟩
  case fin =>
   rintro ⟨b1,b2⟩ s' ⟨hb',rfl,vs,ws,hz,hlen,hR⟩;simp only at hb';subst hb';have hv:c=decide (items.size < items2.size):=by
    cases hR with
    |nn=>simp only[Ä2] at hlen;exact(decide_eq_false ∅).symm|nc=>simp only[Ä2,ß] at hlen;exact(decide_eq_true ∅).symm|cn=>simp only[Ä2,ß] at hlen;exact(decide_eq_false ∅).symm|eq he hr=>rw[È5] at hz;cases hz
    |ne he hr=>rw[È5] at hz;cases hz
   rw[hv] at h
   wp_walk
   exact⟨_,rfl,by simpa [tupleCompareSizes] using h⟩
  case h =>
   exact⟨rfl,rfl,items.toList,items2.toList,rfl,by simp;omega,hx⟩
end
theorem m81(hl:Ì3 s.heap l i1)(hb:Ì3 s.heap b i2)(hu:A.units < Â4)(hx:Lx A.in1 s i1.toList i2.toList c):q52 A s (.ref l) (.ref b) c:=by
 intro P w E Q h;obtain⟨⟨cls,dd,data,sl⟩,ho,hc,n,hd⟩:=id hl;obtain⟨⟨cls2,dd2,data2,sl2⟩,ho2,hc2,n2,hd2⟩:=id hb;simp only at hc hd hc2 hd2;subst hc hd hc2 hd2;exact richCompare_meets_room (op:=.Lt) ⟨_,ho,rfl⟩ ⟨_,ho2,rfl⟩ Ï1 Ü9 (Ü1 _ _) (A20 l b i1 i2 n n2 dd dd2 sl sl2 c)
  ⟨ho,ho2,hx,show Å8 c≠Ñ0/\Q (.bool c) s from⟨(λx=>nomatch x),h⟩⟩ hu
theorem b62(ha:e21 s.heap v a)(hb:e21 s.heap u b)(hu:A.units + deep a < Â4):Ó9 A s v u (eqD a b):=by
 obtain⟨f1,as,r1⟩:=ha;obtain⟨f2,bs,r2⟩:=hb;rw[← N50 a b f1 f2];have h:=H10 a;have h2:min (toP a).depth (toP b).depth<=(toP a).depth:=Nat.min_le_left _ _;exact SeqAt.eqAt_reads (toP a) (toP b) A s v u as bs r1 r2 (w20 a f1) (w20 b f2) ∅
theorem d90.b90(x:d90 h us (d::ds)):∃ u r,us=u::r/\e21 h u d/\d90 h r ds:=by
 obtain⟨f,as,r⟩:=x;simp only[f60,Á] at f;cases r with
 |cons r1 r2=>exact⟨_,_,rfl,⟨f.1,_,r1⟩,f.2,_,r2⟩
theorem d90.e50(x:d90 h us []):us=[]:=by
 obtain⟨_,as,r⟩:=x;cases r;rfl
theorem in1_units(A:ü):A.in1.units=A.units + 1:=rfl
theorem P71:∀ (n:Nat) {A:ü}{s:Å},
  (∀ (a b:D) (v u:Ä) (c:Bool),deep a<=n->e21 s.heap v a->e21 s.heap u b->ltD a b=some c->A.units + n < Â4->q52 A s v u c) /\
  (∀ (a b:List D) (vs us:List Ä) (c:Bool),i60 a < n->d90 s.heap vs a->d90 s.heap us b->A21 a b=some c->A.units + n < Â4->Lx A.in1 s vs us c):=by
 intro n
 induction n with
 |zero =>
  intro A s;refine⟨λa b v u c hd ha hb e hu=>?_,λa b vs us c hd=>absurd hd (Ò6 _)⟩;cases a with
  |int i =>
   cases b with
   |int j =>
    cases e;obtain⟨_,_,r1⟩:=ha;obtain⟨_,_,r2⟩:=hb;cases r1;cases r2;exact λP w E Q h=>HT.W10 A s i _ j _ P w E Q h
   |_=>cases e
  |tup l=>simp[deep] at hd|_=>cases e
 |succ n ih =>
  have rows:∀ {A:ü}{s:Å} (a b:List D) (vs us:List Ä) (c:Bool),i60 a < n + 1->d90 s.heap vs a->d90 s.heap us b->A21 a b=some c->A.units + (n + 1) < Â4->Lx A.in1 s vs us c:=by
   intro A s a
   induction a with
   |nil =>
    intro b vs us c _ ha hb e hu;cases ha.e50;cases b with
    |nil=>cases hb.e50;cases e;exact .nn
    |cons y q=>obtain⟨u,r,rfl,_⟩:=hb.b90;cases e;exact .nc
   |cons x r ihr =>
    intro b vs us c hd ha hb e hu;obtain⟨v,vs',rfl,a1,a2⟩:=ha.b90;cases b with
    |nil=>cases hb.e50;cases e;exact .cn
    |cons y q =>
     obtain⟨u,us',rfl,b1,b2⟩:=hb.b90;simp only[i60] at hd;have d1:deep x<=n:=Nat.le_of_lt_succ (Ì9 (Nat.le_max_left _ _) hd);have d2:i60 r < n + 1:=Ì9 (Nat.le_max_right _ _) hd;have hu1:A.in1.units + n < cLine:=by rw[in1_units];omega
     have he:=b62 (A:=A.in1) a1 b1 ∅
     simp only[A21] at e;cases hq:eqD x y with
     |true =>
      rw[hq] at he e;exact .eq he (ihr q vs' us' c d2 a2 b2 (by simpa using e) hu)
     |false =>
      rw[hq] at he e;exact .ne he ((ih (A:=A.in1) (s:=s)).1 x y v u c d1 a1 b1 (by simpa using e) hu1)
  intro A s;refine⟨λa b v u c hd ha hb e hu=>?_,rows⟩;cases a with
  |int i =>
   cases b with
   |int j =>
    cases e;obtain⟨_,_,r1⟩:=ha;obtain⟨_,_,r2⟩:=hb;cases r1;cases r2;exact λP w E Q h=>HT.W10 A s i _ j _ P w E Q h
   |_=>cases e
  |tup l =>
   cases b with
   |tup q =>
    obtain⟨f1,as,r1⟩:=ha;obtain⟨f2,bs,r2⟩:=hb;simp only[deep] at hd;cases r1 with
    |tuple k1 k2 k3 k4 =>
     cases r2 with
     |tuple m1 m2 m3 m4 =>
      exact m81 ⟨_,k1,k2,_,k3⟩ ⟨_,m1,m2,_,m3⟩ ∅ (rows l q _ _ c ∅ ⟨by simpa [u30] using f1,_,k4⟩ ⟨by simpa [u30] using f2,_,m4⟩ e hu)
   |_=>cases e
  |_=>cases e
section
variable {X:Cx}
theorem b72(h:ltO a b=some c):okD a=true/\okD b=true/\ltD a b=some c:=by
 unfold ltO at h;split at h
 ·rename_i ok;rw[Á] at ok;exact⟨ok.1,ok.2,h⟩
 ·cases h
theorem b82(hu:X.A.units + 64 < Â4):OpR X (ö .Lt) (rD2 X.K λa b=>(C50 .lt a b).map λc=>.d (.bl c)):=by
 intro pins s σ H x y v u Q I rx ry h;obtain⟨zA,z,dx,dy,w,st,hx,hy,e,q⟩:=h;obtain⟨b,e1,e2⟩:=Ê.mp e;subst e2;obtain⟨o1,o2,e3⟩:=b72 (show ltO dx dy=some b from e1);obtain⟨f1,_⟩:=m40 o1;obtain⟨f2,_⟩:=m40 o2;obtain⟨as,r1⟩:=h70 I (hx.same (a00 zA H)) rx f1;obtain⟨bs,r2⟩:=h70 I (hy.same (a00 zA H)) ry f2;exact(P71 40 (A:=X.A) (s:=s)).1 dx dy v u b (H40 o1) ⟨f1,as,r1⟩ ⟨f2,bs,r2⟩ e3 ∅ _ _ _ _ ⟨.bl b,H,I,rfl,q _ _ (a10.refl H) f80⟩
theorem u50{K:Â}{H:Hp}:∀ {l:List D}{ns:List Int}{vs:List V},j40 l=some ns->HdA K H l vs->vs=ns.map V.int/\l=ns.map D.int
 |[],_,_,e,h=>by cases e;rw[h.e50];exact⟨rfl,rfl⟩
 |.int i::r,_,_,e,h=>by
  obtain⟨ms,e1,rfl⟩:=Ê.mp e;obtain⟨x,xs,rfl,h1,h2⟩:=h.b90;cases h1.i40;obtain⟨rfl,rfl⟩:=u50 e1 h2;exact⟨rfl,rfl⟩
 |.non::_,_,_,e,_=>by cases e
 |.bl _::_,_,_,e,_=>by cases e
 |.str _::_,_,_,e,_=>by cases e
 |.tup _::_,_,_,e,_=>by cases e
 |.lst _::_,_,_,e,_=>by cases e
 |.dct::_,_,_,e,_=>by cases e
theorem b92(hu:X.A.units + 64 < Â4):OpR X (ö .LtE) (rD2 X.K λa b=>(C50 .le a b).map λc=>.d (.bl c)):=by
 intro pins s σ H x y v u Q I rx ry h;obtain⟨zA,z,dx,dy,w,st,hx,hy,e,q⟩:=h;cases dx with
 |int i =>
  cases dy with
  |int j =>
   cases e;cases hx.i40;cases hy.i40;exact n82 pins s σ H _ _ v u Q I rx ry ⟨i,j,rfl,rfl,q _ _ (a10.refl H) f80⟩
  |_=>cases e
 |tup a =>
  cases dy with
  |tup b =>
   obtain⟨c,e1,e2⟩:=Ê.mp e;subst e2;obtain⟨ns,n1,e1⟩:=Ï.mp (show(j40 a).bind _=_ from e1);obtain⟨ms,n2,rfl⟩:=Ê.mp e1;obtain⟨p,xs,rfl,h1,h2⟩:=hx.t90;obtain⟨p',ys,rfl,h3,h4⟩:=hy.t90;obtain⟨rfl,_⟩:=u50 n1 h2;obtain⟨rfl,_⟩:=u50 n2 h4;exact a42 ∅ pins s σ H _ _ v u Q I rx ry ⟨p,p',ns,ms,rfl,rfl,(a00 zA H).sqT h1,(a00 zA H).sqT h3,q _ _ (a10.refl H) f80⟩
  |_=>cases e
 |_=>cases e
theorem c02:OpR X (ö .Gt) (rD2 X.K λa b=>(C50 .gt a b).map λc=>.d (.bl c)):=by
 intro pins s σ H x y v u Q I rx ry h;obtain⟨zA,z,dx,dy,w,st,hx,hy,e,q⟩:=h;cases dx with
 |int i =>
  cases dy with
  |int j =>
   cases e;cases hx.i40;cases hy.i40;exact n92 pins s σ H _ _ v u Q I rx ry ⟨i,j,rfl,rfl,q _ _ (a10.refl H) f80⟩
  |_=>cases e
 |_=>cases e
theorem c12:OpR X (ö .GtE) (rD2 X.K λa b=>(C50 .ge a b).map λc=>.d (.bl c)):=by
 intro pins s σ H x y v u Q I rx ry h;obtain⟨zA,z,dx,dy,w,st,hx,hy,e,q⟩:=h;cases dx with
 |int i =>
  cases dy with
  |int j =>
   cases e;cases hx.i40;cases hy.i40;exact o02 pins s σ H _ _ v u Q I rx ry ⟨i,j,rfl,rfl,q _ _ (a10.refl H) f80⟩
  |_=>cases e
 |_=>cases e
theorem A81{K:Â}{H:Hp}{d:D}{v:V}(h:Hd K H d v):decide (v=.non)=l51 d:=by
 cases d with
 |non=>cases h.l02;rfl
 |bl b=>cases h.bl_;rfl
 |int i=>cases h.i40;rfl
 |str x=>cases h.q22;rfl
 |tup l=>obtain⟨a,xs,rfl,_⟩:=h.t90;rfl
 |lst l=>obtain⟨a,xs,rfl,_⟩:=h.N30;rfl
 |dct=>unfold Hd at h;obtain⟨a,kvs,rfl,_⟩:=h;rfl
theorem A91:OpR X (ö .IsNot) (rD2 X.K λa b=>(C50 .isnt a b).map λc=>.d (.bl c)):=by
 intro pins s σ H x y v u Q I rx ry h;obtain⟨zA,z,dx,dy,w,st,hx,hy,e,q⟩:=h;cases dy with
 |bl b =>
  cases dx with
  |bl a =>
   cases e;cases hx.bl_;cases hy.bl_;exact k01 pins s σ H _ _ v u Q I rx ry ⟨a,b,rfl,rfl,q _ _ (a10.refl H) f80⟩
  |_=>cases e
 |non =>
  have e':some (S.d (.bl (!l51 dx)))=some w:=by cases dx <;> exact e
  cases e';cases hy.l02;refine K51 pins s σ H _ _ v u Q I rx ry ⟨rfl,?_⟩;rw[A81 hx];exact q _ _ (a10.refl H) f80
 |_=>cases dx <;> cases e
def opC:Cm->CmpOp
 |.eq=>.Eq | .ne=>.NotEq | .lt=>.Lt | .le=>.LtE | .gt=>.Gt | .ge=>.GtE | .isnt=>.IsNot | .mem=>.In | .nmem=>.NotIn
theorem V81(hu:X.A.units + 64 < Â4)(o:Cm):OpR X (ö (opC o)) (rD2 X.K λa b=>(C50 o a b).map λc=>.d (.bl c)):=by
 cases o
 ·exact b42 hu
 ·exact P51 hu
 ·exact b82 hu
 ·exact b92 hu
 ·exact c02
 ·exact c12
 ·exact A91
 ·exact P61 hu
 ·exact A71 hu
theorem HdA.one{K:Â}{H:Hp}{d:D}{xs:List V}(h:HdA K H [d] xs):∃ x,xs=[x]/\Hd K H d x:=by
 obtain⟨x,r,rfl,h1,h2⟩:=h.b90;rw[h2.e50];exact⟨x,rfl,h1⟩
theorem HdA.two{K:Â}{H:Hp}{d e:D}{xs:List V}(h:HdA K H [d,e] xs):∃ x y,xs=[x,y]/\Hd K H d x/\Hd K H e y:=by
 obtain⟨x,r,rfl,h1,h2⟩:=h.b90;obtain⟨y,rfl,h3⟩:=h2.one;exact⟨x,y,rfl,h1,h3⟩
theorem m91{K:Â}{zA:Option Æ}{H:Hp}{d:D}{l:List D}{v:V}(h:Hd K (hz zA H) d v)(e:l61 d=some l):∃ a xs,v=.ref a/\(SqL K H a xs∨SqT K H a xs)/\HdA K (hz zA H) l xs:=by
 cases d with
 |tup m =>
  cases e;obtain⟨a,xs,rfl,h1,h2⟩:=h.t90;exact⟨a,xs,rfl,.inr ((a00 zA H).sqT h1),h2⟩
 |lst m =>
  cases e;obtain⟨a,xs,rfl,h1,h2⟩:=h.N30;exact⟨a,xs,rfl,.inl (h1.same (a00 zA H)).sq,h2⟩
 |_=>cases e
theorem c22:f00 X (.builtin "len") (rDn X.K (bfD .len)):=by
 intro pins s σ H xs us Q I r h;obtain⟨zA,z,ds,w,st,hx,e,q⟩:=h
 match ds,e with
 |[d],e =>
  obtain⟨l,e1,rfl⟩:=Ê.mp (show(l61 d).map _=some w from e);obtain⟨x,rfl,h1⟩:=hx.one;obtain⟨a,ys,rfl,h2,h3⟩:=m91 h1 e1;exact L40 pins s σ H _ us Q I r ⟨a,ys,rfl,h2,by rw[h3.length];exact q _ _ (a10.refl H) h60⟩
theorem B01:f00 X (.type "tuple") (rDn X.K (bfD .tuple)):=by
 intro pins s σ H xs us Q I r h;obtain⟨zA,z,ds,w,st,hx,e,q⟩:=h
 match ds,e with
 |[d],e =>
  obtain⟨l,e1,rfl⟩:=Ê.mp (show(l61 d).map _=some w from e);obtain⟨x,rfl,h1⟩:=hx.one;obtain⟨a,ys,rfl,h2,h3⟩:=m91 h1 e1;refine r60 pins s σ H _ us Q I r ⟨a,ys,rfl,?_⟩;rcases h2 with h2 | h2
  ·refine .inl ⟨h2,λp hp=>q _ _ (a10.new _ hp) (w01 (Hd.tup ((st.same (a10.new _ hp)).v91 (SqT.of b10)) (h3.same (h50 (a10.new _ hp)))))⟩
  ·exact .inr ⟨h2,q _ _ (a10.refl H) (w01 (Hd.tup (st.v91 h2) h3))⟩
theorem P81:f00 X (.type "list") (rDn X.K (bfD .list)):=by
 intro pins s σ H xs us Q I r h;obtain⟨zA,z,ds,w,st,hx,e,q⟩:=h
 match ds,e with
 |[d],e =>
  obtain⟨l,e1,rfl⟩:=Ê.mp (show(l61 d).map _=some w from e);obtain⟨x,rfl,h1⟩:=hx.one;obtain⟨a,ys,rfl,h2,h3⟩:=m91 h1 e1;exact L50 pins s σ H _ us Q I r ⟨a,ys,rfl,h2,λp hp=>q _ _ (a10.new _ hp) (p00 st h3 hp)⟩
theorem n11{K:Â}{H:Hp}:∀ {l:List D}{bs:List Bool}{vs:List V},l.mapM asB=some bs->HdA K H l vs->vs=bs.map V.bl
 |[],_,_,e,h=>by simp at e;subst e;rw[h.e50];rfl
 |x::r,_,_,e,h=>by
  simp only[Ó5,bind,Ï] at e;obtain⟨b,e1,bs,e2,e3⟩:=e;cases e3;obtain⟨y,ys,rfl,h1,h2⟩:=h.b90;cases x with
  |bl c=>cases e1;cases h1.bl_;rw[n11 e2 h2];rfl
  |_=>cases e1
theorem c32(hc:X.calm=true):f00 X (.builtin "all") (rDn X.K (bfD .all)):=by
 intro pins s σ H xs us Q I r h;obtain⟨zA,z,ds,w,st,hx,e,q⟩:=h
 match ds,e with
 |[.lst l],e =>
  obtain⟨bs,e1,rfl⟩:=Ê.mp (show(l.mapM asB).map _=some w from e);obtain⟨x,rfl,h1⟩:=hx.one;obtain⟨a,ys,rfl,h2,h3⟩:=h1.N30;rw[n11 e1 h3] at h2;exact y31 hc pins s σ H _ us Q I r ⟨a,bs,rfl,(h2.same (a00 zA H)).sq,q _ _ (a10.refl H) f80⟩
theorem B11:∀ {ns:List Int}{vs:List Ä},Vals (ns.map V.int) vs->∃ xs:List (Int × Tok),vs=xs.map (λp=>.int p.1 p.2)/\xs.map (·.1)=ns
 |[],_,h=>by cases h;exact⟨[],rfl,rfl⟩
 |n::r,_,h=>by
  cases h with
  |cons h1 h2 =>
   obtain⟨t,rfl⟩:=h1;obtain⟨xs,rfl,e⟩:=B11 h2;exact⟨(n,t)::xs,rfl,by rw[Ã5,e]⟩
theorem B21(hc:X.calm=true):f00 X (.builtin "any") (λxs H Q=>∃ (a:Æ) (bs:List Bool),xs=[.ref a]/\SqL X.K H a (bs.map V.bl)/\Q (.bl (bs.any id)) H):=by
 intro pins s σ H xs us Q I r h;obtain⟨a,bs,rfl,hq,q⟩:=h;obtain⟨u,rfl,rx⟩:=vals1 r;cases rx;obtain⟨its,rv,pl,hz⟩:=I.list hq;have hlt:a < s.heap.objs.size:=by obtain⟨_,e,_⟩:=pl.isList;exact Ü e
 have hlen:its.length=bs.length:=by have:=rv.length;simpa using this.symm
 refine call_any_walk (Ê4 pl.isList ⟨_,_,_,_,_,_,λi=>(bs[i]?).getD false,rfl,Ú8 (by exact I.ok.hd hc) s.heap.objs.size a (Û hlt) its.toArray,⟨⟨_,Ì _ rfl,rfl,rfl⟩,pl.isList.push _⟩,?_,?_⟩)
 ·intro i v s' Q' E' hP hQ;have hP':its[i]?=some v:=by simpa using hP
  have hi:i < bs.length:=by rw[← hlen];exact(ä.mp hP').1
  obtain⟨v',hv',rv'⟩:=rv.get (i:=i) (x:=.bl bs[i]) (by simp[hi])
  rw[hP'] at hv';cases hv';cases (show v=Å8 _ from rv');exact À9 (by simpa [hi] using hQ)
 ·intro h' tk kp;refine⟨.bl (bs.any id),H,I.kept λb o e=>kp b o (by simpa using Û (Ü e)) (Ã _ e),?_,q⟩
  show Å8 _=Å8 _;rw[Ó,hlen]
  congr 1
  rw[Å0,Ë3,Ë3];constructor
  ·rintro ⟨i,h1,h2⟩;have hi:i < bs.length:=ù.mp h1;exact⟨bs[i],Æ0 hi,by simpa [hi] using h2⟩
  ·rintro ⟨b,h1,h2⟩;obtain⟨i,hi,rfl⟩:=List.getElem_of_mem h1;exact⟨i,ù.mpr hi,by simpa [hi] using h2⟩
theorem c42(hc:X.calm=true):f00 X (.builtin "any") (rDn X.K (bfD .any)):=by
 intro pins s σ H xs us Q I r h;obtain⟨zA,z,ds,w,st,hx,e,q⟩:=h
 match ds,e with
 |[.lst l],e =>
  obtain⟨bs,e1,rfl⟩:=Ê.mp (show(l.mapM asB).map _=some w from e);obtain⟨x,rfl,h1⟩:=hx.one;obtain⟨a,ys,rfl,h2,h3⟩:=h1.N30;rw[n11 e1 h3] at h2;exact B21 hc pins s σ H _ us Q I r ⟨a,bs,rfl,(h2.same (a00 zA H)).sq,q _ _ (a10.refl H) f80⟩
theorem c52(hc:X.calm=true):f00 X (.builtin "min") (rDn X.K (bfD .min)):=by
 intro pins s σ H xs us Q I r h;obtain⟨zA,z,ds,w,st,hx,e,q⟩:=h
 match ds,e with
 |[.int i,.int j],e =>
  cases e;obtain⟨x,y,rfl,h1,h2⟩:=hx.two;cases h1.i40;cases h2.i40;exact h41 hc pins s σ H _ us Q I r ⟨i,j,rfl,q _ _ (a10.refl H) h60⟩
theorem c62(hc:X.calm=true):f00 X (.builtin "max") (rDn X.K (bfD .max)):=by
 intro pins s σ H xs us Q I r h;obtain⟨zA,z,ds,w,st,hx,e,q⟩:=h
 match ds,e with
 |[.int i,.int j],e =>
  cases e;obtain⟨x,y,rfl,h1,h2⟩:=hx.two;cases h1.i40;cases h2.i40;exact h31 hc pins s σ H _ us Q I r ⟨i,j,rfl,q _ _ (a10.refl H) h60⟩
theorem c72:f00 X (.type "int") (rDn X.K (bfD .int)):=by
 intro pins s σ H xs us Q I r h;obtain⟨zA,z,ds,w,st,hx,e,q⟩:=h
 match ds,e with
 |[.int i],e =>
  cases e;obtain⟨x,rfl,h1⟩:=hx.one;cases h1.i40;exact K50 pins s σ H _ us Q I r (.inl ⟨i,rfl,q _ _ (a10.refl H) h60⟩)
 |[.bl b],e =>
  cases e;obtain⟨x,rfl,h1⟩:=hx.one;cases h1.bl_;exact K50 pins s σ H _ us Q I r (.inr ⟨b,rfl,q _ _ (a10.refl H) h60⟩)
def tyN:Ty->String
 |.int=>"int" | .bool=>"bool" | .tuple=>"tuple" | .list=>"list" | .str=>"str" | .seq=>""
theorem P91(t:Ty)(d:D)(h:t≠.seq):isB d.ty (tyN t)=k92 t d:=by
 cases t <;> cases d <;> first | rfl | (exact absurd rfl h) | decide
theorem B31(d:D):(isB d.ty "tuple" || isB d.ty "list")=k92 .seq d:=by cases d <;> rfl
theorem at_of{K:Â}{H:Hp}{l:List D}{xs:List V}{i:Int}{d:D}(h:HdA K H l xs)(e:atI l i=some d):∃ v,atI xs i=some v/\Hd K H d v:=by
 unfold atI at e ⊢;obtain⟨j,e1,e2⟩:=Ï.mp e;rw[h.length,e1];exact h.get e2
theorem ixD:IxR X (rD2 X.K λa b=>(l81 a b).map S.d):=by
 intro value slice pins s σ H x y v u Q I rx ry h hs;obtain⟨zA,z,dx,dy,w,st,hx,hy,e,q⟩:=h;obtain⟨r,e1,rfl⟩:=Ê.mp e;cases dx with
 |tup l =>
  cases dy with
  |int i =>
   cases hy.i40;obtain⟨a,xs,rfl,h1,h2⟩:=hx.t90;obtain⟨v',e2,h3⟩:=at_of h2 e1;exact Z31 value slice pins s σ H _ _ v u Q I rx ry ⟨a,xs,i,v',rfl,rfl,(a00 zA H).sqT h1,e2,q _ _ (a10.refl H) (w01 h3)⟩ hs
  |_=>cases e1
 |lst l =>
  cases dy with
  |int i =>
   cases hy.i40;obtain⟨a,xs,rfl,h1,h2⟩:=hx.N30;obtain⟨v',e2,h3⟩:=at_of h2 e1;exact i21 value slice pins s σ H _ _ v u Q I rx ry ⟨a,xs,i,v',rfl,rfl,(h1.same (a00 zA H)).sq,e2,q _ _ (a10.refl H) (w01 h3)⟩ hs
  |_=>cases e1
 |_=>cases e1
theorem H71{K:Â}{H:Hp}{l:List D}{xs:List V}(h:HdA K H l xs)(lo hi:Option Int):HdA K H (cutD l lo hi) (x41 xs lo hi):=by
 unfold cutD x41;rw[h.length];exact(h.drop _).take _
def E92(K:Â):V->Option Int->Option Int->Hp->VK->Prop:=λx lo hi H Q=>∃ zA z dx s,d70 zA z H/\Hd K (hz zA H) dx x/\slD dx lo hi=some s/\∀ v H',a10 H H'->RvS K zA H H' s v->Q v H'
theorem F02:SlR X (E92 X.K):=by
 intro pins s σ H x v vl vu lo hi sl Q I rx hs pl pu h;obtain⟨zA,z,dx,w,st,hx,e,q⟩:=h;cases dx with
 |tup l =>
  cases e;obtain⟨a,xs,rfl,h1,h2⟩:=hx.t90;exact M91 pins s σ H _ v vl vu lo hi sl Q I rx hs pl pu ⟨a,xs,rfl,(a00 zA H).sqT h1,tupQ st (H71 h2 lo hi) q⟩
 |lst l =>
  cases e;obtain⟨a,xs,rfl,h1,h2⟩:=hx.N30;exact L11 pins s σ H _ v vl vu lo hi sl Q I rx hs pl pu ⟨a,xs,rfl,(h1.same (a00 zA H)).sq,λp hp=>q _ _ (a10.new _ hp) (p00 st (H71 h2 lo hi) hp)⟩
 |_=>cases e
end
end Q
namespace Q
open PySem L2 PySem.Spec PyProof.Rows
open PySem.W (KatLex KatTups kat_nil kat_cons kat_go kat_yes kat_no kat_one kat_lt kat_kind kas_kind kat_lt_int)
theorem A30(k:D):∀ l,(A31 k l).Perm (k::l)
 |[]=>.refl _
 |y::r=>by
  unfold A31;split
  ·exact((A30 k r).cons y).trans (.swap _ _ _)
  ·exact .refl _
theorem u60:∀ l,(z90 l).Perm l
 |[]=>.refl _|k::r=>(A30 k _).trans ((u60 r).cons k)
theorem n21(k:D):∀ l,l.Pairwise (λx y=>MySort.i30 (flt y) (flt x)=false)->(A31 k l).Pairwise (λx y=>MySort.i30 (flt y) (flt x)=false)
 |[],_=>Ý9 _ _
 |y::r,h=>by
  obtain⟨h1,h2⟩:=Ì5.mp h;unfold A31;split
  ·rename_i hy;refine Ì5.mpr ⟨λz hz=>?_,n21 k r h2⟩;rcases å.mp ((A30 k r).mem_iff.mp hz) with rfl | hz
   ·cases q:MySort.i30 (flt z) (flt y) with
    |false=>rfl|true=>have:=MySort.n80 _ _ _ hy q;rw[MySort.p80] at this;cases this
   ·exact h1 z hz
  ·rename_i hy;refine Ì5.mpr ⟨λz hz=>?_,h⟩;rcases å.mp hz with rfl | hz
   ·simpa using hy
   ·cases q:MySort.i30 (flt z) (flt k) with
    |false=>rfl
    |true =>
     rcases MySort.W40 _ (flt y) _ q with q | q
     ·rw[h1 z hz] at q;cases q
     ·exact absurd q hy
theorem X10:∀ l,(z90 l).Pairwise (λx y=>MySort.i30 (flt y) (flt x)=false)
 |[]=>.nil|k::r=>n21 k _ (X10 r)
mutual
theorem H81:∀ x y:D,eqT x y=true->x=y
 |.int i,y,h=>by
  cases y with
  |int j=>rw[eq_of_beq (show(i == j)=true from h)]|_=>cases h
 |.tup a,y,h=>by
  cases y with
  |tup b=>rw[S50 a b h]|_=>cases h
 |.non,y,h=>by cases y <;> cases h
 |.bl _,y,h=>by cases y <;> cases h
 |.str _,y,h=>by cases y <;> cases h
 |.lst _,y,h=>by cases y <;> cases h
 |.dct,y,h=>by cases y <;> cases h
theorem S50:∀ x y:List D,Q10 x y=true->x=y
 |[],[],_=>rfl|[],_::_,h=>by cases h
 |_::_,[],h=>by cases h
 |x::r,y::q,h=>by
  have h:(eqT x y&&Q10 r q)=true:=h;rw[Á] at h;rw[H81 x y h.1,S50 r q h.2]
end
variable [TB:Tb]
theorem Q01(ok:∀ x∈l,∀ y∈l,flt x=flt y->x=y)(h:MySort.sortedBy (l.map flt) p):(p.map λi=>l.getD i .non)=z90 l:=by
 have h1:=h.1.map λi=>l.getD i .non;rw[È,MySort.range_getD] at h1;have e:((p.map λi=>l.getD i .non).map flt)=p.map λi=>(l.map flt).getD i []:=by
  rw[æ];refine Ä1 λi hi=>?_;have:i < l.length:=by have:=h.1.mem_iff.mp hi;simpa using this
  simp[this]
 have h2:(p.map λi=>l.getD i .non).Pairwise λx y=>MySort.i30 (flt y) (flt x)=false:=by
  have:=h.2;rw[← e,List.pairwise_map] at this;exact this
 refine Ù7 (le:=λx y=>MySort.i30 (flt y) (flt x)=false) (λa b ha hb p q=>?_) h2 (X10 l) (h1.trans (u60 l).symm);exact ok a (h1.mem_iff.mp ha) b ((u60 l).mem_iff.mp hb) (MySort.n90 _ _ q p)
mutual
theorem B41(kp:MySort.j71 h h'):∀ (d:D) {u:Ä}{as:List Æ},eqT d d=true->Reads h u (toP d) as->Reads h' u (toP d) as
 |.int i,_,_,_,r=>by cases r;exact .int _ _
 |.tup l,_,_,e,r=>by
  cases r with
  |tuple k1 k2 k3 k4=>exact .tuple (kp _ _ k1 k2) k2 k3 (m50 kp l e k4)
 |.non,_,_,e,_=>by cases e
 |.bl _,_,_,e,_=>by cases e
 |.str _,_,_,e,_=>by cases e
 |.lst _,_,_,e,_=>by cases e
 |.dct,_,_,e,_=>by cases e
theorem m50(kp:MySort.j71 h h'):∀ (l:List D) {us:List Ä}{as:List Æ},Q10 l l=true->ReadsAll h us (J90 l) as->ReadsAll h' us (J90 l) as
 |[],_,_,_,r=>by cases r;exact .nil
 |x::q,_,_,e,r=>by
  have e:(eqT x x&&Q10 q q)=true:=e;rw[Á] at e;cases r with
  |cons r1 r2=>exact .cons (B41 kp x e.1 r1) (m50 kp q e.2 r2)
end
theorem d90.get:∀ {us:List Ä}{l:List D}{i:Nat}{d:D},d90 h us l->l[i]?=some d->e21 h (us.getD i á) d
 |_,[],i,d,_,e=>by cases e
 |us,x::r,i,d,hd,e=>by
  obtain⟨u,q,rfl,h1,h2⟩:=hd.b90;cases i with
  |zero=>cases e;simpa using h1
  |succ i=>simpa using d90.get h2 (by simpa using e)
theorem d90.len:∀ {us:List Ä}{l:List D},d90 h us l->us.length=l.length
 |_,[],hd=>by rw[hd.e50];rfl
 |us,x::r,hd=>by
  obtain⟨u,q,rfl,h1,h2⟩:=hd.b90;simp[d90.len h2]
def H91(l:List D):Prop:=∀ x r,l=x::r->∃ i,x=.int i
theorem y82(hu:A.units + 40 < Â4):∀ (a c:List D) {vs us:List Ä}{r:Bool} (i:Nat),d90 s.heap vs a->d90 s.heap us c->A21 a c=some r->i60 a<=39 ->
  ((b&&i == 0)=true->H91 a/\H91 c)->fin=decide (vs.length < us.length)->Q r s->KatLex P w A b fin Q (vs.zip us) i s
 |[],[],_,_,r,i,ha,hc,e,_,_,hf,q=>by
  cases ha.e50;cases hc.e50;cases e;subst hf;exact kat_nil q
 |[],y::t,_,_,r,i,ha,hc,e,_,_,hf,q=>by
  cases ha.e50;obtain⟨u,us,rfl,_,_⟩:=hc.b90;cases e;subst hf;exact kat_nil q
 |x::l,[],_,_,r,i,ha,hc,e,_,_,hf,q=>by
  cases hc.e50;obtain⟨v,vs,rfl,_,_⟩:=ha.b90;cases e;subst hf;exact kat_nil q
 |x::l,y::t,_,_,r,i,ha,hc,e,hd,hi,hf,q=>by
  obtain⟨v,vs,rfl,a1,a2⟩:=ha.b90;obtain⟨u,us,rfl,c1,c2⟩:=hc.b90;have d1:deep x<=39:=Ô (Nat.le_max_left _ _) hd;have d2:i60 l<=39:=Ô (Nat.le_max_right _ _) hd;have e:(if eqD x y=true then A21 l t else ltD x y)=some r:=e;refine kat_cons (b62 (A:=A) a1 c1 ∅ P w _ _ ?_)
  refine kat_go (λz=>?_) λz=>?_
  ·rw[if_pos z] at e;refine kat_yes (y82 hu l t (i + 1) a2 c2 e d2 (λk=>?_) (by rw[hf];simp) q)
   simp at k
  ·rw[if_neg (by rw[z];exact Ò)] at e
   refine kat_no ?_;cases hb:(b&&i == 0) with
   |true =>
    obtain⟨f1,f2⟩:=hi hb;obtain⟨m,rfl⟩:=f1 x l rfl;obtain⟨n,rfl⟩:=f2 y t rfl;cases e;obtain⟨_,_,r1⟩:=a1;obtain⟨_,_,r2⟩:=c1;cases r1;cases r2;exact oneLt_int q
   |false=>exact kat_one _ _ ((P71 39 (A:=A) (s:=s)).1 x y v u r d1 a1 c1 e ∅ P w _ _ q)
theorem S60(h:l71 x=0):∃ i,x=.int i:=by
 cases x with
 |int i=>exact⟨i,rfl⟩
 |tup l =>
  cases l with
  |nil=>cases h
  |cons y r=>cases y <;> cases h
 |_=>cases h
theorem S70(h:l71 x=k)(h1:1<=k)(h3:k < 3):∃ y r,x=.tup (y::r)/\(k=1->∃ i,y=.int i)/\(k=2->∃ l,y=.tup l):=by
 cases x with
 |tup l =>
  cases l with
  |nil=>have:k=3:=h.symm;omega
  |cons y r =>
   refine⟨y,r,rfl,λe=>?_,λe=>?_⟩ <;> subst e <;> cases y <;> first | exact⟨_,rfl⟩ | cases h
 |int i=>have:k=0:=h.symm;omega|_=>have:k=3:=h.symm;omega
theorem Q11(h1:1<=k)(h3:k < 3):∀ {us:List Ä}{l:List D},d90 h us l->(∀ x∈l,l71 x=k)->∃ fs,KatTups h us fs/\fs.length=us.length/\∀ v∈fs,(k=1->∃ i t,v=Ä.int i t)/\(k=2->∃ a o,v=þ a/\h.get? a=some o/\o.cls=.type "tuple")
 |_,[],hd,_=>by rw[hd.e50];exact⟨[],.nil,rfl,λv hv=>absurd hv (by simp)⟩
 |_,x::r,hd,hk=>by
  obtain⟨u,q,rfl,⟨_,as,r1⟩,h2⟩:=hd.b90;obtain⟨fs,t1,t2,t3⟩:=Q11 h1 h3 h2 λy hy=>hk y (Í _ hy);obtain⟨y,l,rfl,y1,y2⟩:=S70 (hk x Ë) h1 h3;cases r1 with
  | @tuple a o vs n xs as k1 k2 k3 k4 =>
   cases hv:vs.toList with
   |nil=>rw[hv] at k4;cases k4
   |cons f fr =>
    rw[hv] at k4;cases k4 with
    |cons f1 f2 =>
     refine⟨f::fs,.cons k1 k2 k3 (by rw[← ý,hv];rfl) t1,by simp[t2],λv hm=>?_⟩
     rcases å.mp hm with rfl | hm
     ·refine⟨λe=>?_,λe=>?_⟩
      ·obtain⟨i,rfl⟩:=y1 e;cases f1;exact⟨_,_,rfl⟩
      ·obtain⟨m,rfl⟩:=y2 e;cases f1 with
       |tuple g1 g2 g3 g4=>exact⟨_,_,rfl,g1,g2⟩
     ·exact t3 v hm
def kdOf:Nat->Ì1
 |0=>Õ0|1=>tuples' true|_=>tuples' false
theorem S80(h:k00 x y=true):l71 y=l71 x/\ltD x y=some (MySort.i30 (flt x) (flt y))/\(flt x=flt y->x=y):=by
 unfold k00 at h;rw[Á,Á,Å5] at h;refine⟨eq_of_beq h.1,eq_of_beq h.2.1,λe=>?_⟩;rcases h.2.2 with k | k
 ·exact H81 _ _ k
 ·rw[e] at k;simp at k
theorem I01(h64:us.length < 64)(hd:d90 s.heap us l)(hu:A.units + 40 < Â4)(k3:k < 3)(hk:∀ x∈l,l71 x=k)(ho:∀ x∈l,okD x=true)(hp:∀ x∈l,∀ y∈l,k00 x y=true):MySort.Z91 P w A s us (MySort.sortedBy (l.map flt)) (kdOf k) where
 len:=by omega
 few h2:=MySort.a02 (by rw[È];exact hd.len) h2
 all p hp:=by rw[hp.1.length_eq,ð,È,hd.len]
 kind h2 E Q q:=by
  match k,k3,hk,q with
  |0,_,hk,q =>
   refine kas_kind h2 (T:=.type "int") (λv hv=>?_) rfl rfl q;obtain⟨i,hi,rfl⟩:=Ñ5.mp hv;have hi':i < l.length:=by rw[← hd.len];exact hi
   obtain⟨_,as,r⟩:=hd.get (i:=i) (d:=l[i]) (by simp[hi'])
   obtain⟨n,hn⟩:=S60 (hk l[i] (Æ0 hi'));rw[hn] at r;have e:us.getD i á=us[i]:=by simp[hi]
   rw[e] at r;generalize us[i]=v at r;cases r;exact Ø4 rfl
  |1,_,hk,q =>
   obtain⟨fs,t1,t2,t3⟩:=Q11 (-0) (-0) hd hk
   exact kat_kind (T:=.type "int") t1 ∅ (λv hv=>by obtain⟨i,t,rfl⟩:=(t3 v hv).1 rfl;exact Ø4 rfl) rfl q
  |2,_,hk,q =>
   obtain⟨fs,t1,t2,t3⟩:=Q11 (-0) (-0) hd hk
   exact kat_kind (T:=.type "tuple") t1 ∅ (λv hv=>by
    obtain⟨a,o,rfl,g1,g2⟩:=(t3 v hv).2 rfl;rw[← g2];exact(Ñ2 g1).andThen .now) rfl q
 run:=MySort.M01 (by rw[È];exact hd.len) h64 λi j hi hj E C hC=>by
  have hi':i < l.length:=by rw[← hd.len];exact hi
  have hj':j < l.length:=by rw[← hd.len];exact hj
  have mi:=Æ0 hi';have mj:=Æ0 hj';obtain⟨_,h2,_⟩:=S80 (hp _ mi _ mj);have a1:=hd.get (i:=i) (d:=l[i]) (by simp[hi'])
  have b1:=hd.get (i:=j) (d:=l[j]) (by simp[hj'])
  have e1:(l.map flt).getD i []=flt l[i]:=by simp[hi']
  have e2:(l.map flt).getD j []=flt l[j]:=by simp[hj']
  rw[e1,e2] at hC;generalize MySort.i30 (flt l[i]) (flt l[j])=c at h2 hC;have kx:=hk _ mi;have ky:=hk _ mj;have ox:=H40 (ho _ mi);generalize l[i]=x at *
  generalize l[j]=y at *
  have tup:∀ b:Bool,1<=k->(b=true->k=1)->Ñ (Ø P w) A (keyLt' (tuples' b) (us.getD i á) (us.getD j á)) C E s:=λb h1 hb=>by
   obtain⟨x1,xr,rfl,x2,_⟩:=S70 kx h1 k3;obtain⟨y1,yr,rfl,y2,_⟩:=S70 ky h1 k3;obtain⟨f1,as,r1⟩:=a1;obtain⟨f2,bs,r2⟩:=b1;generalize us.getD i á=v at r1;generalize us.getD j á=u at r2;cases r1 with
   |tuple p1 p2 p3 p4 =>
    cases r2 with
    |tuple q1 q2 q3 q4 =>
     refine kat_lt p1 p3 q1 q3 (y82 hu (x1::xr) (y1::yr) 0 ⟨f1,_,p4⟩ ⟨f2,_,q4⟩ h2 (by have:deep (.tup (x1::xr))=i60 (x1::xr) + 1:=rfl;omega) (λz=>?_) (by simp) hC)
     have hb1:=hb (by simpa using z)
     exact⟨λa q e=>by cases e;exact x2 hb1,λa q e=>by cases e;exact y2 hb1⟩
  match k,k3,kx,ky,tup with
  |0,_,kx,ky,_ =>
   obtain⟨m,rfl⟩:=S60 kx;obtain⟨n,rfl⟩:=S60 ky;cases h2;obtain⟨_,_,r1⟩:=a1;obtain⟨_,_,r2⟩:=b1;generalize us.getD i á=v at r1;generalize us.getD j á=u at r2;cases r1;cases r2;exact kat_lt_int hC
  |1,_,_,_,tup=>exact tup true (-0) λ_=>rfl|2,_,_,_,tup=>exact tup false (-0) λh=>by cases h
theorem HdA.pick{K:Â}{H:Hp}{l:List D}{vs:List V}(h:HdA K H l vs):∀ {p:List Nat},(∀ i∈p,i < l.length)->HdA K H (p.map λi=>l.getD i .non) (p.map λi=>vs.getD i .non)
 |[],_=>.nil
 |i::p,hp=>by
  have hi:=hp i Ë;refine .cons ?_ (HdA.pick h λj hj=>hp j (Í _ hj));obtain⟨v,e1,e2⟩:=h.get (i:=i) (d:=l[i]) (by simp[hi])
  have g1:l.getD i .non=l[i]:=by simp[hi]
  have g2:vs.getD i .non=v:=by rw[Ù,e1];rfl
  show Hd K H (l.getD i .non) (vs.getD i .non);rw[g1,g2];exact e2
end Q
namespace Q
open PySem L2 PySem.Spec PyProof.Rows
open PySem.W (kas_mapM kas_first_eq kas_item kas_item_eq kas_cmp)
theorem Q21(h:k<=8):∀ i∈TS.sN k,i < 2 ^ k:=by
 have:∀ k,k < 9->((TS.sN k).all λi=>Nat.blt i (2 ^ k))=true:=by decide +kernel
 intro i hi;exact Nat.blt_eq.mp (ø.mp (this k ∅) i hi)
theorem c82(h:k<=8):(TS.sN k).length=2 ^ k:=by
 have:∀ k,k < 9->beq (TS.sN k).length (2 ^ k)=true:=by decide +kernel
 exact Nat.eq_of_beq_eq_true (this k ∅)
theorem s20(h:i < 2 ^ k):(g60 k)[i]?=some (b70 k i):=by
 unfold g60;rw[Þ,Ó4 h];rfl
theorem c92(h:k<=8):((TS.sN k).map λi=>(g60 k).getD i .non)=A41 k :=
 Ä1 λi hi=>by rw[Ù,s20 (Q21 h i hi)];rfl
theorem n31:∀ a b:List Nat,A21 (a.map λ(i:Nat)=>.int i) (b.map λ(i:Nat)=>.int i)=some (TS.k72 a b)
 |[],[]=>rfl|[],_::_=>rfl|_::_,[]=>rfl
 |a::r,b::q=>by
  show(if ((a:Int) == (b:Int))=true then A21 (r.map λ(i:Nat)=>.int i) (q.map λ(i:Nat)=>.int i) else some (decide ((a:Int) < b)))=some (if beq a b=true then TS.k72 r q else Nat.blt a b);rw[n31 r q];by_cases h:a=b
  ·subst h;rw[if_pos (by simp),if_pos (Nat.beq_refl a)]
  ·rw[if_neg (by simp;omega),if_neg λe=>h (Nat.eq_of_beq_eq_true e)]
   congr 1
   rw[Å0,decide_eq_true_eq,Nat.blt_eq];omega
variable [TB:Tb]
section
variable {P:â}{w:õ}{A:ü}{E:Ä->Å->Prop}{s:Å}
def TupAt(h:ï)(v:Ä):Prop:=∃ a o xs n,v=.ref a/\h.get? a=some o/\o.cls=.type "tuple"/\o.data=.seq xs n
theorem X20(ho:s.heap.get? a=some o)(hc:o.cls=.type "tuple")(hd:o.data=.seq xs n)(q:Q xs[0]? s):Ñ (Ø P w) A (firstOfTuple' (.ref a)) Q E s:=by
 rw[kas_first_eq];refine À (Ú9 (show PySem.W.Looks (Ø P w) s.heap (typeOf (.ref a)) o.cls from(Ñ2 ho).andThen .now) ?_);rw[hc,if_neg (by first | decide | simp)]
 exact À (Í5 ho hd (Ç q))
theorem N60:∀ (vs:List Ä),(∀ v∈vs,TupAt s.heap v)->∃ fs:List (Option Ä),∀ Q,Q fs s->Ñ (Ø P w) A (vs.mapM firstOfTuple') Q E s
 |[],_=>⟨[],λQ q=>by rw[List.mapM_nil];exact Ç q⟩
 |v::vs,h=>by
  obtain⟨fs,hf⟩:=N60 vs λu hu=>h u (Í _ hu);obtain⟨a,o,xs,n,rfl,ho,hc,hd⟩:=h v Ë;refine⟨xs[0]?::fs,λQ q=>?_⟩;rw[Ó5];exact À (X20 ho hc hd (À (hf _ (Ç q))))
theorem Q31(ho:s.heap.get? a=some o)(hc:o.cls=.type "tuple")(hd:o.data=.seq #[] n)(h:∀ v∈vs,TupAt s.heap v)(q:Q Õ0 s):Ñ (Ø P w) A (keyKind' (þ a::vs).toArray) Q E s:=by
 obtain⟨fs,hf⟩:=N60 (P:=P) (w:=w) (A:=A) (E:=E) vs h;rw[keyKind'_eq,List.mapM_toArray,map_eq_pure_bind,Ó5];refine À (À (À (X20 ho hc hd (À (hf _ (Ç (Ç ?_)))))));rw[if_neg (by simp),if_neg (by simp)]
 rw[oneTypeOnly'_eq,List.mapM_toArray,map_eq_pure_bind];refine À (À (À (kas_mapM (r:=.type "tuple") _ (λv hv Q' hq=>?_) (Ç ?_))))
 ·have:TupAt s.heap v:=by
   rcases å.mp hv with rfl | hv
   ·exact⟨_,_,_,_,rfl,ho,hc,hd⟩
   ·exact h v hv
  obtain⟨b,o',xs,m,rfl,ho',hc',_⟩:=this;rw[← hc'] at hq;exact Ú9 (show PySem.W.Looks (Ø P w) s.heap (typeOf (.ref b)) o'.cls from(Ñ2 ho').andThen .now) hq
 ·have hall:((List.map (λ_=>Á0 "tuple") (þ a::vs)).toArray.all λx=>x == Á0 "tuple")=true:=by
   simp only[List.all_toArray,all_map,Á5];intro _ _;rfl
  have h0:(List.map (λ_=>Á0 "tuple") (þ a::vs)).toArray[0]?=some (Á0 "tuple"):=by simp
  rw[h0];simp only[hall,if_true];exact Ç (Ç q)
theorem d02(hl:Ì3 s.heap l i1)(hb:Ì3 s.heap b i2)(hu:A.units < Â4)(hx:Lx A.in1 s i1.toList i2.toList c)(q:Q c s):Ñ (Ø P w) A (keyLt' Õ0 (.ref l) (.ref b)) Q E s:=by
 obtain⟨⟨cls,dd,data,sl⟩,ho,hc,n,hd⟩:=id hl;obtain⟨⟨cls2,dd2,data2,sl2⟩,ho2,hc2,n2,hd2⟩:=id hb;simp only at hc hd hc2 hd2;subst hc hd hc2 hd2;rw[keyLt'_oneType,oneLt'_eq];simp only[if_true];refine À (wpAny_cRoomFor hu (À (wpAny_callSpecialIfBound?_slot ⟨_,ho,rfl⟩ Ï1 (Ç1 Ï1 ⟨_,ho,rfl⟩ Ü9 (Ü1 _ _) (A20 l b i1 i2 n n2 dd dd2 sl sl2 c) ⟨ho,ho2,hx,?_⟩))));exact À9 q
theorem d12(h8:k<=8)(hd:d90 s.heap us (g60 k))(hu:A.units + 40 < Â4):MySort.Z91 P w A s us (λp=>p=TS.sN k) Õ0 where
 len:=by rw[hd.len,g60,È,ð];exact Ô (Ò1 (-0) h8) (-0)
 few h2:=by
  rw[hd.len,g60,È,ð] at h2 ⊢;cases k with
  |zero=>rfl|succ k=>have:=Nat.one_le_two_pow (n:=k);rw[Nat.pow_succ] at h2;omega
 all p hp:=by subst hp;rw[hd.len,g60,È,ð,c82 h8]
 kind h2 E Q q:=by
  have ht:∀ i v,us[i]?=some v->∃ xs n a o,v=.ref a/\s.heap.get? a=some o/\o.cls=.type "tuple"/\o.data=.seq xs n/\(i=0->xs=#[]):=λi v e=>by
   have hi:i < us.length:=(ä.mp e).1;have hi':i < 2 ^ k:=by rw[hd.len,g60,È,ð] at hi;exact hi
   obtain⟨_,as,r⟩:=hd.get (s20 hi');have e2:us.getD i á=v:=by rw[Ù,e];rfl
   rw[e2] at r;have z0:∀ k,TS.z50 k 0 0=[]:=λk=>by
    have:∀ k i,TS.z50 k i 0=[]:=λk=>by
     induction k with
     |zero=>exact λ_=>rfl|succ k ih=>exact λi=>ih (i + 1)
    exact this k 0
   cases i with
   |zero =>
    have r:Reads s.heap v (toP (.tup ((TS.z50 k 0 0).map λ(i:Nat)=>.int i))) as:=r;rw[z0] at r;cases r with
    | @tuple a o vs n xs as k1 k2 k3 k4 =>
     have:vs.toList=[]:=by cases hv:vs.toList with | nil=>rfl | cons _ _=>rw[hv] at k4;cases k4
     exact⟨vs,n,a,o,rfl,k1,k2,k3,λ_=>Array.toList_eq_nil_iff.mp this⟩
   |succ i =>
    cases r with
    | @tuple a o vs n xs as k1 k2 k3 k4=>exact⟨vs,n,a,o,rfl,k1,k2,k3,λe=>by cases e⟩
  match us,ht with
  |[],_=>simp at h2
  |v::vs,ht =>
   obtain⟨xs,n,a,o,rfl,h1,h3,h4,h5⟩:=ht 0 v rfl;cases h5 rfl;refine Q31 h1 h3 h4 (λu hu=>?_) q;obtain⟨i,hi,rfl⟩:=Ñ5.mp hu;obtain⟨xs,n,a,o,e,h1,h3,h4,_⟩:=ht (i + 1) vs[i] (by simp[hi])
   exact⟨a,o,xs,n,e,h1,h3,h4⟩
 run h2:=by
  have hl:us.length=2 ^ k:=by rw[hd.len,g60,È,ð]
  have h1:1<=k:=by
   cases k with
   |zero=>rw[hl] at h2;exact absurd h2 (-0)|succ k=>omega
  refine TS.runL h1 h8 hl λi j C hi hj hC=>?_;have e1:=kas_item_eq us i;have e2:=kas_item_eq us j;show Ñ (Ø P w) A (keyLt' Õ0 (ó (pairsOf us) i).1 (ó (pairsOf us) j).1) C _ s;rw[e1,e2];obtain⟨f1,as,r1⟩:=hd.get (s20 hi);obtain⟨f2,bs,r2⟩:=hd.get (s20 hj);show Ñ (Ø P w) A (keyLt' Õ0 (us.getD i á) (us.getD j á)) C _ s;generalize us.getD i á=v at r1;generalize us.getD j á=u at r2;cases r1 with
  |tuple p1 p2 p3 p4 =>
   cases r2 with
   |tuple q1 q2 q3 q4 =>
    refine d02 ⟨_,p1,p2,_,p3⟩ ⟨_,q1,q2,_,q3⟩ ∅ ((P71 40).2 _ _ _ _ _ ?_ ⟨f1,_,p4⟩ ⟨f2,_,q4⟩ (n31 _ _) ∅) hC
    have:∀ l:List Nat,i60 (l.map λ(i:Nat)=>.int i)=0:=λl=>by
     induction l with
     |nil=>rfl|cons x r ih=>show Nat.max 0 _=0;rw[ih];rfl
    rw[this];decide
end
section
variable {X:Cx}
theorem Q41{zA:Option Æ}{H:Hp}{k:Nat}{xs:List V}(hu:X.A.units + 64 < Â4)(hd:HdA X.K H (g60 k) xs)(h8:k<=8):N01 X H xs (λp=>p=TS.sN k):=by
 intro pins σ s us I rv;have ci:∀ l:List Nat,f60 (l.map λ(i:Nat)=>.int i)=true/\Q10 (l.map λ(i:Nat)=>.int i) (l.map λ(i:Nat)=>.int i)=true:=λl=>by
  induction l with
  |nil=>exact⟨rfl,rfl⟩|cons x r ih=>exact⟨ih.1,by show((x:Int) == (x:Int)&&_)=true;rw[ih.2];simp⟩
 have cl:∀ l:List Nat,f60 (l.map (b70 k))=true/\Q10 (l.map (b70 k)) (l.map (b70 k))=true:=λl=>by
  induction l with
  |nil=>exact⟨rfl,rfl⟩
  |cons x r ih =>
   refine⟨?_,?_⟩
   ·show(f60 _&&_)=true;rw[(ci _).1,ih.1];rfl
   ·show(Q10 _ _&&_)=true;rw[(ci _).2,ih.2];rfl
 obtain⟨as,ra⟩:=A00 I hd rv (cl _).1;exact⟨Õ0,λh' kp=>d12 h8 ⟨(cl _).1,_,m50 kp _ (cl _).2 ra⟩ (by show X.A.units + 1 + 1 + 40 < Â4;omega)⟩
theorem Q51{zA:Option Æ}{H:Hp}{l:List D}{xs:List V}(hu:X.A.units + 64 < Â4)(hd:HdA X.K H l xs)(h64:l.length < 64)(ok:o90 l=true):N01 X H xs (MySort.sortedBy (l.map flt)):=by
 intro pins σ s us I rv
 replace h64:us.length < 64:=by rw[← rv.length,hd.length];exact h64
 have all:∀ x∈l,l71 x < 3/\okD x=true/\∀ y∈l,k00 x y=true:=λx hx=>by
  have:=ø.mp ok x hx;rw[Á,Á,decide_eq_true_eq,Á5] at this;exact⟨this.1,this.2.1,this.2.2⟩
 have hf:f60 l=true:=by
  clear hd
  induction l with
  |nil=>rfl
  |cons x r ih =>
   have h1:=(m40 (all x Ë).2.1).1;show(u30 x&&f60 r)=true;rw[h1];have ok':o90 r=true:=ø.mpr λy hy=>by
    obtain⟨a,b,c⟩:=all y (Í _ hy);rw[Á,Á,decide_eq_true_eq,Á5];exact⟨a,b,λz hz=>c z (Í _ hz)⟩
   exact ih ok' λy hy=>⟨(all y (Í _ hy)).1,(all y (Í _ hy)).2.1,λz hz=>(all y (Í _ hy)).2.2 z (Í _ hz)⟩
 obtain⟨as,ra⟩:=A00 I hd rv hf;have pure:Q10 l l=true:=by
  clear hd ra hf ok;have:∀ q:List D,(∀ x∈q,eqT x x=true)->Q10 q q=true:=λq=>by
   induction q with
   |nil=>intro _;rfl|cons x r ih=>intro h;show(eqT x x&&Q10 r r)=true;rw[h x Ë,ih λy hy=>h y (Í _ hy)];rfl
  refine this l λx hx=>?_;have h:=(all x hx).2.2 x hx;unfold k00 at h;rw[Á,Á,Å5] at h;rcases h.2.2 with k | k
  ·exact k
  ·simp at k
 cases l with
 |nil=>exact⟨kdOf 0,λh' kp=>I01 h64 ⟨hf,_,m50 kp _ pure ra⟩ (by show X.A.units + 1 + 1 + 40 < Â4;omega) (-0) (λx hx=>absurd hx (by simp)) (λx hx=>absurd hx (by simp)) λx hx=>absurd hx (by simp)⟩
 |cons x r =>
  have hx:=all x Ë;exact⟨kdOf (l71 x),λh' kp=>I01 h64 ⟨hf,_,m50 kp _ pure ra⟩ (by show X.A.units + 1 + 1 + 40 < Â4;omega) hx.1 (λy hy=>(S80 (hx.2.2 y hy)).1) (λy hy=>(all y hy).2.1) λy hy=>(all y hy).2.2⟩
theorem n41(hu:X.A.units + 64 < Â4):f00 X (.builtin "sorted") (rDn X.K (bfD .sorted)):=by
 intro pins s σ H xs us Q I r h;obtain⟨zA,z,ds,w,st,hx,e,q⟩:=h
 match ds,e with
 |[x],e =>
  have e:sortedS x=some w:=e;unfold sortedS at e;obtain⟨l,h1,e⟩:=Ï.mp e;obtain⟨v,rfl,hv⟩:=hx.one;have go:∀ (a:Æ) (ys:List V),v=.ref a->(SqL X.K H a ys∨SqT X.K H a ys)->HdA X.K (hz zA H) l ys->Ñ (Ø X.prog X.w) X.A (call (.builtin "sorted") us) (EP X pins σ Q) X.xe s:=λa ys hva hq hd=>by
   subst hva;by_cases c:l.length < 64/\o90 l=true
   ·rw[if_pos c] at e;cases e;obtain⟨h64,ok⟩:=c;refine w10 pins s σ H _ us Q I r ⟨a,ys,MySort.sortedBy (l.map flt),rfl,hq,Q51 (zA:=zA) hu (hd.same (a00 zA H)) h64 ok,λp hp i hi=>by have:=hp.1.mem_iff.mp hi;rw[hd.length];simpa using this,λp lA hp hn=>?_⟩
    have hd2:=hd.pick (p:=p) λi hi=>by have:=hp.1.mem_iff.mp hi;simpa using this
    rw[Q01 (λx hx y hy=>?_) hp] at hd2
    ·exact q _ _ (a10.new _ hn) (p00 st hd2 hn)
    ·have:=ø.mp ok x hx;rw[Á,Á,Á5] at this;exact(S80 (this.2.2 y hy)).2.2
   ·rw[if_neg c] at e;obtain⟨l',e1,rfl⟩:=Ê.mp e;obtain⟨k,e2,rfl⟩:=Ê.mp e1;have e3:=S50 _ _ (List.find?_some (p:=λk=>Q10 l (g60 k)) e2);have k8:k<=8:=by have:=List.mem_of_find?_eq_some e2;simp at this;omega
    subst e3;refine w10 pins s σ H _ us Q I r ⟨a,ys,λp=>p=TS.sN k,rfl,hq,Q41 (zA:=zA) hu (hd.same (a00 zA H)) k8,λp hp i hi=>?_,λp lA hp hn=>?_⟩
    ·subst hp;rw[hd.length,g60,È,ð];exact Q21 k8 i hi
    ·subst hp;have hd2:=hd.pick (p:=TS.sN k) λi hi=>by rw[g60,È,ð];exact Q21 k8 i hi
     rw[c92 k8] at hd2;exact q _ _ (a10.new _ hn) (p00 st hd2 hn)
  cases x with
  |tup m =>
   cases h1;obtain⟨a,ys,rfl,k1,k2⟩:=hv.t90;exact go a ys rfl (.inr ((a00 zA H).sqT k1)) k2
  |lst m =>
   cases h1;obtain⟨a,ys,rfl,k1,k2⟩:=hv.N30;exact go a ys rfl (.inl (k1.same (a00 zA H)).sq) k2
  |_=>cases h1
end
structure Gs where
 fns:List (Str × List Str)
 nums:List (Str × Int)
 F:FT
 cls:Nat->Addr
 lv:Nat
def EPost(G:Gs)(zA:Option Æ)(E:XK)(c:Nat)(z:Z)(H:Hp):Prop:=∀ e H',Ext zA H H'->d70 zA z H'->H' e=none->E (.ref (G.cls c)) (some e) H'
theorem EPost.mono(h:EPost G zA E c z H)(e:Ext zA H H1):EPost G zA E c z H1:=λa H' x s n=>h a H' (e.trans x) s n
def q62(K:Â)(G:Gs)(zA:Option Æ)(E:XK)(H:Hp)(Q:VK):R S->Prop
 |.ok s z'=>∀ v H',Ext zA H H'->d70 zA z' H'->RvS K zA H H' s v->Q v H'|.er c z'=>EPost G zA E c z' H
def S90(K:Â)(G:Gs)(zA:Option Æ)(E:XK)(H:Hp)(Q:VK):R (List S)->Prop
 |.ok l z'=>∃ s,l=[s]/\∀ v H',Ext zA H H'->d70 zA z' H'->RvS K zA H H' s v->Q v H'|.er c z'=>EPost G zA E c z' H
def q72(K:Â)(G:Gs)(zA:Option Æ)(E:XK)(H:Hp)(Q:List V->Hp->Prop):R (List S)->Prop
 |.ok l z'=>∀ vs H',Ext zA H H'->d70 zA z' H'->Á7 (RvS K zA H H') l vs->Q vs H'|.er c z'=>EPost G zA E c z' H
def B51(G:Gs)(zA:Option Æ)(E:XK)(H:Hp)(Q:Bool->Hp->Prop):R (List S)->Prop
 |.ok l z'=>∃ b,l=[.d (.bl b)]/\∀ H',Ext zA H H'->d70 zA z' H'->Q b H'|.er c z'=>EPost G zA E c z' H
def x90(K:Â)(zA:Option Æ)(H:Hp)(ρ:Env)(σ:L2.St):Prop:=∀ (i:Nat) (s:S),ρ[i]?=some (some s)->∃ v,σ[i]?=some (some v)/\RvP K zA H s v
theorem x90.mono{K:Â}{zA:Option Æ}{H H':Hp}{ρ:Env}{σ:L2.St}(h:x90 K zA H ρ σ)(e:Ext zA H H'):x90 K zA H' ρ σ:=λi s q=>let ⟨v,a,b⟩:=h i s q;⟨v,a,b.mono e⟩
def tI(K:Â)(G:Gs)(E:XK)(x:Ex):TE:=λσ H Q=>∃ zA ρ z r,x90 K zA H ρ σ/\d70 zA z H/\ev G.F x ρ z=some r/\S90 K G zA E H Q r
def tA(K:Â)(G:Gs)(E:XK)(x:Ex):TA:=λσ H Q=>∃ zA ρ z r,x90 K zA H ρ σ/\d70 zA z H/\ev G.F x ρ z=some r/\q72 K G zA E H Q r
def tT(K:Â)(G:Gs)(E:XK)(x:Ex):TT:=λσ H Q=>∃ zA ρ z r,x90 K zA H ρ σ/\d70 zA z H/\ev G.F x ρ z=some r/\B51 G zA E H Q r
def spF(K:Â)(G:Gs)(f n:Nat):Sp:=λvs H Q E=>vs.length=n/\∃ zA z ss r,RvA K zA H ss vs/\d70 zA z H/\G.F false f ss z=some r/\q62 K G zA E H Q r
section
variable {K:Â}{G:Gs}{E:XK}{a x:Ex}{ρ:Env}{z:Z}{zA:Option Æ}{σ:L2.St}{H:Hp}
theorem j50{α:Type}{k:List S->M α}{r:R α}{Q':VK}(rel:x90 K zA H ρ σ)(st:d70 zA z H)(h:M.bind (ev G.F a ρ) k z=some r)(her:∀ c z1,r=.er c z1->EPost G zA E c z1 H)
  (hok:∀ l z1,k l z1=some r->∃ s,l=[s]/\∀ v H1,Ext zA H H1->d70 zA z1 H1->RvS K zA H H1 s v->Q' v H1):tI K G E a σ H Q':=by
 rcases M.bind_some h with ⟨l,z1,e1,e2⟩ | ⟨c,z1,e1,e2⟩
 ·exact⟨zA,ρ,z,_,rel,st,e1,hok l z1 e2⟩
 ·exact⟨zA,ρ,z,_,rel,st,e1,her c z1 e2⟩
theorem e31{α:Type}{k:List S->M α}{r:R α}{Q':List V->Hp->Prop}(rel:x90 K zA H ρ σ)(st:d70 zA z H)(h:M.bind (ev G.F a ρ) k z=some r)(her:∀ c z1,r=.er c z1->EPost G zA E c z1 H)
  (hok:∀ l z1,k l z1=some r->∀ vs H1,Ext zA H H1->d70 zA z1 H1->Á7 (RvS K zA H H1) l vs->Q' vs H1):tA K G E a σ H Q':=by
 rcases M.bind_some h with ⟨l,z1,e1,e2⟩ | ⟨c,z1,e1,e2⟩
 ·exact⟨zA,ρ,z,_,rel,st,e1,hok l z1 e2⟩
 ·exact⟨zA,ρ,z,_,rel,st,e1,her c z1 e2⟩
theorem N70{α:Type}{k:Bool->M α}{r:R α}{Q':Bool->Hp->Prop}(rel:x90 K zA H ρ σ)(st:d70 zA z H)(h:M.bind (ev G.F a ρ) (λx=>M.bind (M.of ((pl x).bind asB)) k) z=some r)(her:∀ c z1,r=.er c z1->EPost G zA E c z1 H)
  (hok:∀ b z1,k b z1=some r->∀ H1,Ext zA H H1->d70 zA z1 H1->Q' b H1):tT K G E a σ H Q':=by
 rcases M.bind_some h with ⟨l,z1,e1,e2⟩ | ⟨c,z1,e1,e2⟩
 ·obtain⟨b,e3,e4⟩:=M.a30 e2;obtain⟨d,e5,e6⟩:=Ï.mp e3;have el:l=[.d (.bl b)]:=by
   obtain⟨s,rfl,hs⟩:=f70 e5;cases s with
   |d y=>cases hs;cases d <;> first | (cases e6;rfl) | cases e6
   |fr ys=>cases hs;cases e6
   |_=>cases hs
  exact⟨zA,ρ,z,_,rel,st,e1,b,el,hok b z1 e4⟩
 ·exact⟨zA,ρ,z,_,rel,st,e1,her c z1 e2⟩
theorem A40{l:List S}{s:S}(h:one l=some s):l=[s]:=by
 unfold one at h;split at h
 ·cases h;rfl
 ·cases h
end
theorem PE.imp(h:PE X e t)(i:∀ σ H Q,t' σ H Q->t σ H Q):PE X e t':=λpins s σ H Q I q=>h pins s σ H Q I (i _ _ _ q)
theorem PT.imp(h:PT X e t)(i:∀ σ H Q,t' σ H Q->t σ H Q):PT X e t':=λpins s σ H Q I q=>h pins s σ H Q I (i _ _ _ q)
theorem PW.imp(h:PW X e t)(i:∀ σ H Q,t' σ H Q->t σ H Q):PW X e t':=λw pins s σ H Q I q=>h w pins s σ H Q I (i _ _ _ q)
theorem PA.imp(h:PA X e t)(i:∀ σ H Q,t' σ H Q->t σ H Q):PA X e t':=λp pins s σ H Q I q=>h p pins s σ H Q I (i _ _ _ q)
def noStar:Î->Bool
 |.Starred ..=>false|_=>true
theorem d10(h:noStar e=true)(es:List Î)(env:Æ1):û (e::es) env=(false,eval e env)::û es env:=by
 cases e <;> first | rfl | cases h
theorem s30:∀ {es:List Î} (env:Æ1) (pos:Pos),es.all noStar=true->(Ò0 pos (û es env)).any (·.1)=false
 |[],_,_,_=>rfl
 |e::es,env,pos,h=>by
  rw[Ä3,Á] at h;rw[d10 h.1];show(false || (Ò0 pos (û es env)).any (·.1))=false;rw[s30 env pos h.2];rfl
def plainT:Î->Bool
 |.UnaryOp .Not _ _=>false|.BoolOp ..=>false|.IfExp ..=>false|.Compare ..=>false|_=>true
theorem n51(h:plainT e=true)(env:Æ1)(whole:Sem Ä):isTrue e env whole=(do let v ← whole;standAt e.pos;Ú6 [v] (truthy v)):=by
 cases e with
 |UnaryOp op _ _=>cases op <;> first | rfl | cases h
 |BoolOp _ _ _=>cases h
 |IfExp _ _ _ _=>cases h
 |Compare _ _ _ _=>cases h
 |_=>rfl
def T00:Î->Bool
 |.Slice ..=>false|_=>true
theorem D50(h:T00 e=true):i11 e:=λo i=>by
 cases e with
 |Slice _ _ _ _=>cases h
 |_=>rfl
def s40:Î->Bool
 |.Set ..=>false|_=>true
theorem n61(h:s40 e=true)(op:CmpOp):behindInMarks op e=false:=by
 cases e with
 |Set _ _ _=>cases h
 |_=>rfl
structure a70(X:Cx)(G:Gs)(E:XK)(x:Ex)(e:Expr):Prop where
 pe:PE X e (tI X.K G E x)
 pt:(∀ t a b p,e≠.IfExp t a b p)->PT X e (tT X.K G E x)
 pw:∀ op vs p,e=.BoolOp op vs p->PW X e (tT X.K G E x)
theorem a90(h:PE X e (tI X.K G E x))(hp:plainT e=true):a70 X G E x e:=by
 refine⟨h,λ_=>PT.imp (W81 h (n51 hp X.env)) λσ H Q q=>?_,λop vs p he=>?_⟩
 ·obtain⟨zA,ρ,z,r,rel,st,e,po⟩:=q;refine⟨zA,ρ,z,r,rel,st,e,?_⟩;cases r with
  |er c z1=>exact po
  |ok l z1 =>
   obtain⟨b,rfl,po⟩:=po;exact⟨_,rfl,λv H' ex st' rv=>⟨b,Hd.bl_ (show Hd X.K (hz zA H') (.bl b) v from rv),po H' ex st'⟩⟩
 ·subst he;cases hp
def isL:Ex->Bool
 |.nil=>true|.cons _ _=>true|_=>false
def Good(X:Cx)(G:Gs)(E:XK):Ex->List Î->Prop
 |.nil,es=>es=[]|.cons a r,es=>∃ e es',es=e::es'/\noStar e=true/\a70 X G E a e/\isL r=true/\Good X G E r es'|x,es=>∃ e,es=[e]/\a70 X G E x e
theorem Good.args:∀ {x:Ex}{es:List Î},isL x=true->Good X G E x es->PA X es (tA X.K G E x)/\es.all noStar=true:=by
 intro x
 induction x with
 |nil =>
  intro es _ h;have h:es=[]:=h;subst h;refine⟨PA.imp r50 λσ H Q q=>?_,rfl⟩;obtain⟨zA,ρ,z,r,rel,st,e,po⟩:=q;cases e;exact po [] H Ext.refl st .nil
 |cons a r _ ih =>
  intro es _ h;obtain⟨e,es',rfl,ns,g,lr,gr⟩:=h;obtain⟨h1,h2⟩:=ih lr gr;refine⟨PA.imp (g10 g.pe h1 (d10 ns es' X.env)) λσ H Q q=>?_,by rw[Ä3,ns,h2];rfl⟩
  obtain⟨zA,ρ,z,rr,rel,st,e,po⟩:=q;have her:∀ c z1,rr=.er c z1->EPost G zA E c z1 H:=λc z1 e=>by subst e;exact po
  refine j50 rel st e her λl z1 e1=>?_;obtain⟨s,hs,e2⟩:=M.a30 e1;refine⟨s,A40 hs,λv H1 x1 st1 rv=>?_⟩;refine e31 (rel.mono x1) st1 e2 (λc z2 q=>(her c z2 q).mono x1) λl2 z2 e3 vs H2 x2 st2 rvs=>?_;cases e3;exact po (v::vs) H2 (x1.trans x2) st2 (.cons (rv.mono x2) (Á7.V51 rvs λ_ _ q=>q.from x1))
 |_=>intro es h;cases h
def Q61:List Str:=["len","sorted","tuple","list","sum","min","max","abs","all","any","int","bool","str","isinstance","range","zip","enumerate","set","dict"]
structure XI(lm:Bool)(X:Cx)(G:Gs)(E:XK)(N:List Str)(sc:Scope):Prop where
 gok:∀ f nm ps,G.fns[f]?=some (nm,ps)->∃ fa fd,X.mg nm=some (.ref fa)/\PySem.W.keepIn X.K (.ref fa)=true/\Binds X.K fd ps []/\c11 X.prog X.w X.K X.mg X.base (CX1 X.prog X.w) G.lv fa fd ps (spF X.K G f ps.length)
 num:∀ p∈G.nums,∃ t,X.mg p.1=some (.int p.2 t)
 blt:∀ n∈Q61,X.mg n=none
 hN:X.N=N
 nd:N.Nodup
 vis:∀ x∈N,Vis X.env.scope x
 glb:∀ x,sc.names.lookup x=some .globalImplicit->Gl X x
 cel:∀ x,(sc.names.lookup x=some .cell∨sc.names.lookup x=some .free)->(X.env.kindOf x=some .cell∨X.env.kindOf x=some .free)
 calm:X.calm=true
 room:K60 G.lv X.A
 pas:Passes (CX1 X.prog X.w) X E
def glob(sc:À3)(x:Str):Bool:=sc.names.lookup x == some .globalImplicit&&!(x == ("__debug__":Str))&&!(x == ("__name__":Str))
def b50(x:Str):Bool:=!(x == ("__debug__":Str))&&!(x == ("__classdict__":Str))
def d22:Const->D->Bool
 |.int i,.int j=>i == j|.bool a,.bl b=>a == b|.str x,.str y=>x == y|.none,.non=>true|_,_=>false
def bfN:Bf->Str × Bool
 |.len=>("len",false) | .sorted=>("sorted",false) | .tuple=>("tuple",true) | .list=>("list",true) | .min=>("min",false) | .max=>("max",false)|.all=>("all",false) | .any=>("any",false) | .int=>("int",true) | .sset=>("sorted",false) | .k42=>("len",false)|.dict=>("dict",true)
def served:Bf->Bool
 |.dict=>true|.len | .tuple | .list | .min | .max | .all | .any | .int | .sorted=>true|_=>false
mutual
noncomputable def g70(N:List Str)(loc:Str->Bool):Pat->Î->Bool
 |.v i=>λe=>match e with
  |.Name x _=>N[i]? == some x&&loc x|_=>false
 |.tup ps=>λe=>match e with
  |.Tuple es _ _=>X30 N loc ps es|_=>false
 |.nil=>λ_=>false|.cons _ _=>λ_=>false
noncomputable def X30(N:List Str)(loc:Str->Bool):Pat->List Î->Bool
 |.nil=>λes=>es.isEmpty
 |.cons p r=>λes=>match es with
  |e::es=>noStar e&&g70 N loc p e&&X30 N loc r es|[]=>false
 |.v _=>λ_=>false|.tup _=>λ_=>false
end
def k20:Î->Bool
 |.Tuple ..=>true|_=>false
def d20:Î->List Str
 |.Name x _=>[x]|.Tuple es _ _=>names es|_=>[]
where names:List Î->List Str
 |[]=>[]|.Name x _::r=>x::names r|.Tuple [.Name a _,.Name b _] _ _::r=>a::b::names r|_::r=>names r
def D60(csc sc:À3)(N own:List Str)(capt:List (Str × Nat)):Bool :=
 csc.kind == .function&&csc.names.all (λy=>y.2 != .cell)&&csc.names.all (λy=>y.2 != .local || csc.names.lookup y.1 == some .local) &&
  csc.names.all (λy=>y.2 != .free || (sc.names.lookup y.1 == some .cell || sc.names.lookup y.1 == some .free))&&capt.all (λp=>N[p.2]? == some p.1&&csc.names.lookup p.1 == some .free) &&
  own.all (λx=>csc.names.lookup x == some .local)&&decide (own++capt.map (·.1)).Nodup
def e00(N:List Str):List Nat->List (Str × Nat)
 |[]=>[]
 |i::r=>match N[i]? with
  |some x=>(x,i)::e00 N r|none=>e00 N r
def opt{α:Type}(o:Option α)(f:α->Bool):Bool:=match o with
 |some a=>f a|none=>false
theorem a50{α:Type}{o:Option α}{f:α->Bool}(h:opt o f=true):∃ a,o=some a/\f a=true:=by
 cases o with
 |none=>cases h
 |some a=>exact⟨a,rfl,h⟩
def y92:(e:List Î)->Option {q:Str × Pos // e=[.Name q.1 q.2]}
 |[.Name n p]=>some ⟨(n,p),rfl⟩|_=>none
def q82:(e:List Î)->Option {q:Const × Nat × Pos // e=[.Constant q.1 q.2.1 q.2.2]}
 |[.Constant c k p]=>some ⟨(c,k,p),rfl⟩|_=>none
def q92:(e:List Î)->Option {q:Pos // e=[.Dict [] [] q]}
 |[.Dict [] [] p]=>some ⟨p,rfl⟩|_=>none
def r02:(e:List Î)->Option {q:List Î × Nat × Pos // e=[.Tuple q.1 q.2.1 q.2.2]}
 |[.Tuple l k p]=>some ⟨(l,k,p),rfl⟩|_=>none
def r12:(e:List Î)->Option {q:List Î × Pos // e=[.List q.1 q.2]}
 |[.List l p]=>some ⟨(l,p),rfl⟩|_=>none
def r22:(e:List Î)->Option {q:Î × Û3 × Î × Pos // e=[.BinOp q.1 q.2.1 q.2.2.1 q.2.2.2]}
 |[.BinOp l o r p]=>some ⟨(l,o,r,p),rfl⟩|_=>none
def r32:(e:List Î)->Option {q:Î × CmpOp × Î × Pos // e=[.Compare q.1 [q.2.1] [q.2.2.1] q.2.2.2]}
 |[.Compare l [o] [r] p]=>some ⟨(l,o,r,p),rfl⟩|_=>none
def F12:(e:List Î)->Option {q:Str × Pos × Nat × Pos × Pos × Î × À3 × Pos // e=[.DictComp (.Name q.1 q.2.1) (.Constant (.bool true) q.2.2.1 q.2.2.2.1) [⟨.Name q.1 q.2.2.2.2.1,q.2.2.2.2.2.1,[],0⟩] q.2.2.2.2.2.2.1 q.2.2.2.2.2.2.2]}
 |[.DictComp (.Name n p1) (.Constant (.bool true) k p2) [⟨.Name m px,iter,[],0⟩] sc ps]=>if h:m=n then some ⟨(n,p1,k,p2,px,iter,sc,ps),by rw[h]⟩ else none|_=>none
def F22(o:Bool):(e:List Î)->Option {q:Î × Str × Pos × Pos // e=[.Compare q.1 [k82 o] [.Name q.2.1 q.2.2.1] q.2.2.2]}
 |[.Compare l [c] [.Name n p] pos]=>if h:c=k82 o then some ⟨(l,n,p,pos),by rw[h]⟩ else none|_=>none
def r42:(e:List Î)->Option {q:Î × Pos // e=[.UnaryOp .USub q.1 q.2]}
 |[.UnaryOp .USub x p]=>some ⟨(x,p),rfl⟩|_=>none
def r52:(e:List Î)->Option {q:Î × Pos // e=[.UnaryOp .Not q.1 q.2]}
 |[.UnaryOp .Not x p]=>some ⟨(x,p),rfl⟩|_=>none
def r62:(e:List Î)->Option {q:Î × Î × List Î × Pos // e=[.BoolOp .And (q.1::q.2.1::q.2.2.1) q.2.2.2]}
 |[.BoolOp .And (l::r::v) p]=>some ⟨(l,r,v,p),rfl⟩|_=>none
def z02:(e:List Î)->Option {q:Î × Î × List Î × Pos // e=[.BoolOp .Or (q.1::q.2.1::q.2.2.1) q.2.2.2]}
 |[.BoolOp .Or (l::r::v) p]=>some ⟨(l,r,v,p),rfl⟩|_=>none
def r72:(e:List Î)->Option {q:Î × Î × Î × Pos // e=[.IfExp q.1 q.2.1 q.2.2.1 q.2.2.2]}
 |[.IfExp t x y p]=>some ⟨(t,x,y,p),rfl⟩|_=>none
def F32:(e:List Î)->Option {q:Î × CmpOp × CmpOp × Î × Î × Pos // e=[.Compare q.1 [q.2.1,q.2.2.1] [q.2.2.2.1,q.2.2.2.2.1] q.2.2.2.2.2]}
 |[.Compare l [o,o2] [r,s] p]=>some ⟨(l,o,o2,r,s,p),rfl⟩|_=>none
def z12:(e:List Î)->Option {q:Str × Pos × Î × List Î × Pos // e=[.Call (.Name q.1 q.2.1) (q.2.2.1::q.2.2.2.1) [] q.2.2.2.2]}
 |[.Call (.Name n q1) (x::l) [] p]=>some ⟨(n,q1,x,l,p),rfl⟩|_=>none
def r82:(e:List Î)->Option {q:Str × Pos × Î × Î × Pos // e=[.Call (.Name q.1 q.2.1) [q.2.2.1,q.2.2.2.1] [] q.2.2.2.2]}
 |[.Call (.Name n q1) [x,ty] [] p]=>some ⟨(n,q1,x,ty,p),rfl⟩|_=>none
def F42:(e:List Î)->Option {q:Î × Î × Pos // e=[.Subscript q.1 q.2.1 q.2.2]}
 |[.Subscript v x p]=>some ⟨(v,x,p),rfl⟩|_=>none
def F52:(e:List Î)->Option {q:Î × Option Î × Option Î × Pos × Pos // e=[.Subscript q.1 (.Slice q.2.1 q.2.2.1 none q.2.2.2.1) q.2.2.2.2]}
 |[.Subscript v (.Slice l h none q1) p]=>some ⟨(v,l,h,q1,p),rfl⟩|_=>none
def d32:(e:List Î)->Option {q:Î × Î × Î × List Î × À3 × Pos // e=[.ListComp q.1 [⟨q.2.1,q.2.2.1,q.2.2.2.1,0⟩] q.2.2.2.2.1 q.2.2.2.2.2]}
 |[.ListComp elt [⟨tg,iter,ifs,0⟩] csc p]=>some ⟨(elt,tg,iter,ifs,csc,p),rfl⟩|_=>none
def V91:(e:Î)->Option {q:Str × Pos × Î × Pos // e=.Call (.Name q.1 q.2.1) [q.2.2.1] [] q.2.2.2}
 |.Call (.Name n q1) [a] [] p=>some ⟨(n,q1,a,p),rfl⟩|_=>none
def W01:(e:Î)->Option {q:Str × Pos × Î × Î × Pos // e=.Call (.Name q.1 q.2.1) [q.2.2.1,q.2.2.2.1] [] q.2.2.2.2}
 |.Call (.Name n q1) [a,b] [] p=>some ⟨(n,q1,a,b,p),rfl⟩|_=>none
def shN:(e:Î)->Option {q:Str × Pos // e=.Name q.1 q.2}
 |.Name n p=>some ⟨(n,p),rfl⟩|_=>none
def z22:(e:Î)->Option {q:Str × Pos × Str × Pos × Nat × Pos // e=.Tuple [.Name q.1 q.2.1,.Name q.2.2.1 q.2.2.2.1] q.2.2.2.2.1 q.2.2.2.2.2}
 |.Tuple [.Name a q1,.Name b q2] k p=>some ⟨(a,q1,b,q2,k,p),rfl⟩|_=>none
def F62:(e:List Î)->Option {q:Str × Pos × Int × Nat × Pos × Pos // e=[.Subscript (.Name q.1 q.2.1) (.Constant (.int q.2.2.1) q.2.2.2.1 q.2.2.2.2.1) q.2.2.2.2.2]}
 |[.Subscript (.Name n p) (.Constant (.int j) c q1) r]=>some ⟨(n,p,j,c,q1,r),rfl⟩|_=>none
def F72:(e:List Î)->Option {q:Str × Pos × Str × Pos × List Î × Pos × Pos // e=[.Call (.Name q.1 q.2.1) [.Call (.Name q.2.2.1 q.2.2.2.1) q.2.2.2.2.1 [] q.2.2.2.2.2.1] [] q.2.2.2.2.2.2]}
 |[.Call (.Name n p) [.Call (.Name m q1) l [] r] [] t]=>some ⟨(n,p,m,q1,l,r,t),rfl⟩|_=>none
def tyE(sc:À3):Ty->Î->Bool
 |.seq=>λe=>opt (z22 e) λq=>q.1.1 == ("tuple":Str)&&q.1.2.2.1 == ("list":Str)&&glob sc "tuple"&&glob sc "list"|t=>λe=>opt (shN e) λq=>q.1.1 == ç (tyN t)&&glob sc (ç (tyN t))
def d42:D->Bool
 |.dct=>true|_=>false
def ifB:Î->Bool
 |.IfExp ..=>true|_=>false
def mt:Bool->List (Str × List Str)->List (Str × Int)->Ex->À3->List Str->List Î->Bool
 |lm,fns,nums,.nil=>λ_ _ es=>es.isEmpty
 |lm,fns,nums,.cons a r=>λsc N es=>match es with
  |e::es=>noStar e&&!isL a&&isL r&&mt lm fns nums a sc N [e]&&mt lm fns nums r sc N es|[]=>false
 |lm,fns,nums,.var i=>λ_ N es=>opt (y92 es) λq=>N[i]? == some q.1.1&&b50 q.1.1|lm,fns,nums,.con d=>λ_ _ es=>(opt (q82 es) λq=>d22 q.1.1 d) || opt (q92 es) λ_=>d42 d|lm,fns,nums,.gint g i=>λsc _ es=>opt (y92 es) λq=>q.1.1 == g&&glob sc q.1.1&&nums.contains (g,i)|lm,fns,nums,.tup as=>λsc N es=>opt (r02 es) λq=>isL as&&mt lm fns nums as sc N q.1.1|lm,fns,nums,.lst as=>λsc N es=>opt (r12 es) λq=>isL as&&mt lm fns nums as sc N q.1.1|lm,fns,nums,.bin o a b=>λsc N es=>opt (r22 es) λq=>q.1.2.1 == opB o&&!isL a&&!isL b&&mt lm fns nums a sc N [q.1.1]&&mt lm fns nums b sc N [q.1.2.2.1]|lm,fns,nums,.cmp o a b=>λsc N es=>opt (r32 es) λq=>q.1.2.1 == opC o&&s40 q.1.2.2.1&&!isL a&&!isL b&&mt lm fns nums a sc N [q.1.1]&&mt lm fns nums b sc N [q.1.2.2.1]|lm,fns,nums,.neg a=>λsc N es=>opt (r42 es) λq=>!isL a&&mt lm fns nums a sc N [q.1.1]|lm,fns,nums,.not a=>λsc N es=>opt (r52 es) λq=>!isL a&&!ifB q.1.1&&mt lm fns nums a sc N [q.1.1]|lm,fns,nums,.and a b=>λsc N es=>opt (r62 es) λq=>!isL a&&!isL b&&!ifB q.1.1&&mt lm fns nums a sc N [q.1.1]&&(if q.1.2.2.1.isEmpty then !ifB q.1.2.1&&mt lm fns nums b sc N [q.1.2.1] else mt lm fns nums b sc N [.BoolOp .And (q.1.2.1::q.1.2.2.1) q.1.2.2.2])|lm,fns,nums,.or a b=>λsc N es=>opt (z02 es) λq=>!isL a&&!isL b&&!ifB q.1.1&&mt lm fns nums a sc N [q.1.1]&&(if q.1.2.2.1.isEmpty then !ifB q.1.2.1&&mt lm fns nums b sc N [q.1.2.1] else mt lm fns nums b sc N [.BoolOp .Or (q.1.2.1::q.1.2.2.1) q.1.2.2.2])|lm,fns,nums,.orT a b=>λsc N es=>opt (z02 es) λq=>!isL a&&!isL b&&q.1.2.2.1.isEmpty&&mt lm fns nums a sc N [q.1.1]&&mt lm fns nums b sc N [q.1.2.1]|lm,fns,nums,.ite c a b=>λsc N es=>opt (r72 es) λq=>!isL c&&!isL a&&!isL b&&!ifB q.1.1&&mt lm fns nums c sc N [q.1.1]&&mt lm fns nums a sc N [q.1.2.1]&&mt lm fns nums b sc N [q.1.2.2.1]|lm,fns,nums,.ch o o' a b c=>λsc N es=>opt (F32 es) λq=>q.1.2.1 == opC o&&q.1.2.2.1 == opC o'&&s40 q.1.2.2.2.2.1&&!isL a&&!isL b&&!isL c&&mt lm fns nums a sc N [q.1.1]&&mt lm fns nums b sc N [q.1.2.2.2.1]&&mt lm fns nums c sc N [q.1.2.2.2.2.1]|lm,fns,nums,.bf f as=>λsc N es=>opt (z12 es) λq=>served f&&q.1.1 == (bfN f).1&&glob sc q.1.1&&isL as&&mt lm fns nums as sc N (q.1.2.2.1::q.1.2.2.2.1)|lm,fns,nums,.isi t a=>λsc N es=>opt (r82 es) λq=>q.1.1 == ("isinstance":Str)&&glob sc q.1.1&&noStar q.1.2.2.1&&!isL a&&mt lm fns nums a sc N [q.1.2.2.1]&&tyE sc t q.1.2.2.2.1|lm,fns,nums,.idx a i=>λsc N es=>opt (F42 es) λq=>T00 q.1.2.1&&!isL a&&!isL i&&mt lm fns nums a sc N [q.1.1]&&mt lm fns nums i sc N [q.1.2.1]|lm,fns,nums,.sl a lo hi=>λsc N es=>opt (F52 es) λq=>!isL a&&isL lo&&isL hi&&mt lm fns nums a sc N [q.1.1]&&mt lm fns nums lo sc N q.1.2.1.toList&&mt lm fns nums hi sc N q.1.2.2.1.toList|lm,fns,nums,.call f as=>λsc N es=>opt (z12 es) λq=>(opt fns[f]? λp=>p.1 == q.1.1&&p.2.length == q.1.2.2.2.1.length + 1)&&glob sc q.1.1&&isL as&&mt lm fns nums as sc N (q.1.2.2.1::q.1.2.2.2.1)
 |lm,fns,nums,.comp own capt p it src cond el=>λsc N es=>opt (d32 es) λq =>
   (d20 q.1.2.1).length == own&&(e00 N capt).length == capt.length&&D60 q.1.2.2.2.2.1 sc N (d20 q.1.2.1) (e00 N capt)&&g70 (d20 q.1.2.1++(e00 N capt).map (·.1)) (λx=>(d20 q.1.2.1).contains x) p q.1.2.1&&isL src&&!isL el&&isL cond&&q.1.2.2.2.1.length<=1&&noStar q.1.1&&s40 q.1.2.2.1 &&
    q.1.2.2.2.1.all (λc=>!ifB c) &&
    (match it with
    |.seq=>mt lm fns nums src sc N [q.1.2.2.1]|.rng1=>opt (V91 q.1.2.2.1) λr=>r.1.1 == ("range":Str)&&glob sc r.1.1&&mt lm fns nums src sc N [r.1.2.2.1]|.rng2=>opt (W01 q.1.2.2.1) λr=>r.1.1 == ("range":Str)&&glob sc r.1.1&&mt lm fns nums src sc N [r.1.2.2.1,r.1.2.2.2.1]|.zip=>opt (W01 q.1.2.2.1) λr=>r.1.1 == ("zip":Str)&&glob sc r.1.1&&k20 q.1.2.1&&mt lm fns nums src sc N [r.1.2.2.1,r.1.2.2.2.1]
    |.enum=>opt (V91 q.1.2.2.1) λr=>r.1.1 == ("enumerate":Str)&&glob sc r.1.1&&k20 q.1.2.1&&mt lm fns nums src sc N [r.1.2.2.1])&&mt false fns nums cond q.1.2.2.2.2.1 (d20 q.1.2.1++(e00 N capt).map (·.1)) q.1.2.2.2.1&&mt false fns nums el q.1.2.2.2.2.1 (d20 q.1.2.1++(e00 N capt).map (·.1)) [q.1.1]
 |lm,fns,nums,.lrng b as=>λsc N es=>opt (F72 es) λq=>q.1.1 == lrN b&&q.1.2.2.1 == ("range":Str)&&glob sc (lrN b)&&glob sc "range"&&isL as&&decide (1<=q.1.2.2.2.2.1.length/\q.1.2.2.2.2.1.length<=2)&&mt lm fns nums as sc N q.1.2.2.2.2.1|lm,fns,nums,.zget i k=>λ_ N es=>opt (F62 es) λq=>N[i]? == some q.1.1&&b50 q.1.1&&q.1.2.2.1 == (k:Int)|lm,fns,nums,.dkeys a=>λsc N es=>opt (F12 es) λq=>D60 q.1.2.2.2.2.2.2.1 sc N [q.1.1] []&&b50 q.1.1&&s40 q.1.2.2.2.2.2.1&&!isL a&&mt lm fns nums a sc N [q.1.2.2.2.2.2.1]|lm,fns,nums,.memk o a i=>λsc N es=>opt (F22 o es) λq=>N[i]? == some q.1.2.1&&b50 q.1.2.1&&!isL a&&mt lm fns nums a sc N [q.1.1]
theorem d60{sc:À3}{x:Str}(h:glob sc x=true):sc.names.lookup x=some .globalImplicit/\(x == ("__debug__":Str))=false/\x≠"__name__":=by
 unfold glob at h;simp only[Á,ú,beq_iff_eq] at h;refine⟨h.1.1,h.1.2,λe=>?_⟩;subst e;simp at h
section
variable {lm:Bool}{X:Cx}{G:Gs}{E:XK}{N:List Str}{sc:À3}
theorem d52{K:Â}{zA:Option Æ}{H0 H:Hp}{s:S}{v:V}(h:RvP K zA H s v):RvS K zA H0 H (plS s) v:=by cases s <;> exact h
theorem Q71(h:(!ifB e)=true):∀ t a b p,e≠.IfExp t a b p:=by
 intro t a b p he;subst he;cases h
theorem a80(hL:isL x=false)(h:Good X G E x [e]):a70 X G E x e:=by
 cases x with
 |nil=>cases hL
 |cons _ _=>cases hL
 |_ =>
  obtain⟨e',h1,h2⟩:=(show ∃ e',[e]=[e']/\a70 X G E _ e' from h);cases h1;exact h2
theorem b80(hL:isL x=false)(h:a70 X G E x e):Good X G E x [e]:=by
 cases x with
 |nil=>cases hL
 |cons _ _=>cases hL
 |_=>exact⟨e,rfl,h⟩
theorem e90(po:S90 X.K G zA E H Q r):∀ c z1,r=.er c z1->EPost G zA E c z1 H:=λc z1 e=>by subst e;exact po
theorem N80(po:B51 G zA E H Q r):∀ c z1,r=.er c z1->EPost G zA E c z1 H:=λc z1 e=>by subst e;exact po
theorem r92(x:XI lm X G E N sc){i:Nat}{n:Str}{pos:Pos}(h1:N[i]?=some n)(h2:b50 n=true):a70 X G E (.var i) (.Name n pos):=by
 unfold b50 at h2;simp only[Á,ú] at h2;refine a90 (PE.imp (l60 (i:=i) (by rw[x.hN];exact h1) (x.vis n (ê h1)) h2.1 h2.2) λσ H Q q=>?_) rfl
 obtain⟨zA,ρ,z,r,rel,st,e,po⟩:=q;have e':(match ρ[i]? with | some (some s)=>M.ret [plS s] | _=>M.no) z=some r:=e
 cases hs:ρ[i]? with
 |none=>rw[hs] at e';cases e'
 |some o =>
  cases o with
  |none=>rw[hs] at e';cases e'
  |some s =>
   rw[hs] at e';cases e';obtain⟨v,hv,rv⟩:=rel i s hs;obtain⟨s',e',po⟩:=po;cases e';exact⟨v,hv,po v H Ext.refl st (d52 rv)⟩
theorem s02(h:d22 c d=true):a70 X G E (.con d) (.Constant c j pos):=by
 refine a90 ?_ rfl;have fin:∀ {v:V},(∀ H,Hd X.K H d v)->∀ σ H Q,tI X.K G E (.con d) σ H Q->tC v σ H Q:=λ{v} hd σ H Q q=>by
  obtain⟨zA,ρ,z,r,rel,st,e,po⟩:=q;cases e;obtain⟨s',e',po⟩:=po;cases e';exact po v H Ext.refl st (w01 (hd _))
 cases c with
 |int i=>cases d <;> first | (simp only[d22,beq_iff_eq] at h;subst h;exact PE.imp g01 (fin λH=>Hd.int)) | (cases h)
 |bool b=>cases d <;> first | (simp only[d22,beq_iff_eq] at h;subst h;exact PE.imp l62 (fin λH=>Hd.bl)) | (cases h)
 |str y=>cases d <;> first | (simp only[d22,beq_iff_eq] at h;subst h;exact PE.imp G21 (fin λH=>Hd.str)) | (cases h)
 |none=>cases d <;> first | exact PE.imp W71 (fin λH=>Hd.non) | (cases h)
 |_=>cases h
theorem s12:a70 X G E (.con .dct) (.Dict [] [] pos):=by
 refine a90 (PE.imp k11 λσ H Q q=>?_) rfl;obtain⟨zA,ρ,z,r,rel,st,e,po⟩:=q;cases e;obtain⟨s',e',po⟩:=po;cases e';intro p hp;refine po _ _ (Ext.of (a10.new _ hp)) (st.same (a10.new _ hp)) (w01 ?_);unfold Hd;exact⟨p,[],rfl,c40 b10 (st.D40 hp)⟩
theorem d62(x:XI lm X G E N sc){g:Str}{i:Int}{pos:Pos}(h1:glob sc g=true)(h2:(g,i)∈G.nums):a70 X G E (.gint g i) (.Name g pos):=by
 obtain⟨k1,k2,_⟩:=d60 h1;obtain⟨t,ht⟩:=x.num _ h2;refine a90 (PE.imp (K01 (v:=.int i) (x.glb g k1) ht ⟨t,rfl⟩ k2) λσ H Q q=>?_) rfl;obtain⟨zA,ρ,z,r,rel,st,e,po⟩:=q;cases e;obtain⟨s',e',po⟩:=po;cases e';exact po _ H Ext.refl st h60
theorem H60{K:Â}{zA:Option Æ}{H0 H:Hp}{l:List S}{vs:List V}{ds:List D}(h:Á7 (RvS K zA H0 H) l vs)(e:plA l=some ds):HdA K (hz zA H) ds vs:=RvA.ds (Á7.V51 h λ_ _ q=>q.pl) e
theorem s22{as:Ex}{l:List Î}{k:Nat}{pos:Pos}(hL:isL as=true)(g:Good X G E as l):a70 X G E (.tup as) (.Tuple l k pos):=by
 refine a90 (PE.imp (G51 (g.args hL).1) λσ H Q q=>?_) rfl;obtain⟨zA,ρ,z,r,rel,st,e,po⟩:=q;refine e31 rel st e (e90 po) λl z1 e1 vs H1 x1 st1 rvs=>?_;obtain⟨ds,hd,e2⟩:=M.a30 e1;split at e2
 ·rename_i hm;cases e2;obtain⟨s',e',po⟩:=po;cases e';have h:=H60 rvs hd;exact⟨f90 (by rw[h.length];exact hm),λp hp=>po _ _ (x1.trans (Ext.of (a10.new _ hp))) (st1.same (a10.new _ hp)) (w01 (Hd.tup ((st1.same (a10.new _ hp)).v91 (SqT.of b10)) (h.same (h50 (a10.new _ hp)))))⟩
 ·cases e2
theorem s32{as:Ex}{l:List Î}{pos:Pos}(hL:isL as=true)(g:Good X G E as l):a70 X G E (.lst as) (.List l pos):=by
 refine a90 (PE.imp (G61 (g.args hL).1) λσ H Q q=>?_) rfl;obtain⟨zA,ρ,z,r,rel,st,e,po⟩:=q;refine e31 rel st e (e90 po) λl z1 e1 vs H1 x1 st1 rvs=>?_;obtain⟨ds,hd,e2⟩:=M.a30 e1;split at e2
 ·rename_i hm;cases e2;obtain⟨s',e',po⟩:=po;cases e';have h:=H60 rvs hd;exact⟨f90 (by rw[h.length];exact hm),λp hp=>po _ _ (x1.trans (Ext.of (a10.new _ hp))) (st1.same (a10.new _ hp)) ((p00 st1 h hp).from x1)⟩
 ·cases e2
theorem X40{α:Type}{a b:Ex}{k:D->D->M α}{zA:Option Æ}{ρ:Env}{z:Z}{r:R α}{σ:L2.St}{H:Hp}{Q:V->V->Hp->Prop}(rel:x90 X.K zA H ρ σ)(st:d70 zA z H)
  (h:M.bind (ev G.F a ρ) (λx=>M.bind (M.of (pl x)) λx=>M.bind (ev G.F b ρ) λy=>M.bind (M.of (pl y)) λy=>k x y) z=some r) (her:∀ c z1,r=.er c z1->EPost G zA E c z1 H)
  (hk:∀ dx dy z2 v w H2,k dx dy z2=some r->Ext zA H H2->d70 zA z2 H2->Hd X.K (hz zA H2) dx v->Hd X.K (hz zA H2) dy w->Q v w H2) :
  tI X.K G E a σ H λv H1=>tI X.K G E b σ H1 λw H2=>Q v w H2:=by
 refine j50 rel st h her λl z1 e1=>?_;obtain⟨dx,p1,e2⟩:=M.a30 e1;obtain⟨s1,rfl,q1⟩:=f70 p1;refine⟨s1,rfl,λv H1 x1 st1 rv=>?_⟩;refine j50 (rel.mono x1) st1 e2 (λc z2 q=>(her c z2 q).mono x1) λm z2 e3=>?_;obtain⟨dy,p2,e4⟩:=M.a30 e3;obtain⟨s2,rfl,q2⟩:=f70 p2;exact⟨s2,rfl,λw H2 x2 st2 rw'=>hk dx dy z2 v w H2 e4 (x1.trans x2) st2 ((rv.pl.mono x2).d_ q1) (rw'.pl.d_ q2)⟩
theorem e10{zA:Option Æ}{H H2:Hp}{z2:Z}{s:S}{Q:VK}(po:S90 X.K G zA E H Q (.ok [s] z2))(x:Ext zA H H2)(st:d70 zA z2 H2):∀ v H',a10 H2 H'->RvS X.K zA H2 H' s v->Q v H':=λv H' sm rv=>by
 obtain⟨s',e',po⟩:=po;cases e';exact po v H' (x.trans (Ext.of sm)) (st.same sm) (rv.from x)
theorem s42(ga:a70 X G E a l)(gb:a70 X G E b r):a70 X G E (.bin o a b) (.BinOp l (opB o) r pos):=by
 refine a90 (PE.imp (n42 (opD o) ga.pe gb.pe) λσ H Q q=>?_) rfl;obtain⟨zA,ρ,z,rr,rel,st,e,po⟩:=q;refine X40 rel st e (e90 po) λdx dy z2 v w H2 e2 x2 st2 h1 h2=>?_;obtain⟨s,hs,e3⟩:=M.a30 e2;cases e3;exact⟨zA,z2,dx,dy,s,st2,h1,h2,hs,e10 po x2 st2⟩
theorem n71(po:B51 G zA E H Q r):S90 X.K G zA E H (λx H'=>∃ k,x=.bl k/\Q k H') r:=by
 cases r with
 |er c z1=>exact po
 |ok l z1 =>
  obtain⟨b,rfl,po⟩:=po;exact⟨_,rfl,λv H' ex st' rv=>⟨b,Hd.bl_ (show Hd X.K (hz zA H') (.bl b) v from rv),po H' ex st'⟩⟩
theorem s52(x:XI lm X G E N sc)(hs:s40 r=true)(ga:a70 X G E a l)(gb:a70 X G E b r):a70 X G E (.cmp o a b) (.Compare l [opC o] [r] pos):=by
 have key:∀ σ H Q,tI X.K G E (.cmp o a b) σ H Q->tOp (rD2 X.K λa b=>(C50 o a b).map λc=>.d (.bl c)) (tI X.K G E a) (tI X.K G E b) σ H Q:=λσ H Q q=>by
  obtain⟨zA,ρ,z,rr,rel,st,e,po⟩:=q;refine X40 rel st e (e90 po) λdx dy z2 v w H2 e2 x2 st2 h1 h2=>?_;obtain⟨c,hc,e3⟩:=M.a30 e2;cases e3;exact⟨zA,z2,dx,dy,_,st2,h1,h2,by show Ë9 _ (C50 o dx dy)=_;rw[hc];rfl,e10 po x2 st2⟩
 refine⟨PE.imp (g81 (V81 x.room.units o) ga.pe gb.pe (n61 hs _)) key,λ_=>PT.imp (g91 (V81 x.room.units o) ga.pe gb.pe (n61 hs _)) λσ H Q q=>?_,λop vs p h=>by cases h⟩
 obtain⟨zA,ρ,z,rr,rel,st,e,po⟩:=q;exact key σ H _ ⟨zA,ρ,z,rr,rel,st,e,n71 po⟩
theorem s62(ga:a70 X G E a l):a70 X G E (.neg a) (.UnaryOp .USub l pos):=by
 refine a90 (PE.imp (n52 Y71 ga.pe) λσ H Q q=>?_) rfl;obtain⟨zA,ρ,z,rr,rel,st,e,po⟩:=q;refine j50 rel st e (e90 po) λm z1 e1=>?_;obtain⟨i,p1,e2⟩:=M.a30 e1;obtain⟨d,p2,p3⟩:=Ï.mp p1;obtain⟨s1,rfl,q1⟩:=f70 p2;cases e2;refine⟨s1,rfl,λv H1 x1 st1 rv=>?_⟩;have hd:=rv.pl.d_ q1;cases d with
 |int j =>
  cases p3;exact⟨i,hd.i40,e10 po x1 st1 _ _ (a10.refl H1) h60⟩
 |_=>cases p3
theorem s72(ga:a70 X G E a l)(hn:∀ t x y p,l≠.IfExp t x y p):a70 X G E (.not a) (.UnaryOp .Not l pos):=by
 refine⟨PE.imp (X41 ga.pe) λσ H Q q=>?_,λ_=>PT.imp (X11 (ga.pt hn)) λσ H Q q=>?_,λop vs p h=>by cases h⟩
 ·obtain⟨zA,ρ,z,rr,rel,st,e,po⟩:=q;refine j50 rel st e (e90 po) λm z1 e1=>?_;obtain⟨b,p1,e2⟩:=M.a30 e1;obtain⟨d,p2,p3⟩:=Ï.mp p1;obtain⟨s1,rfl,q1⟩:=f70 p2;cases e2;refine⟨s1,rfl,λv H1 x1 st1 rv=>?_⟩;have hd:=rv.pl.d_ q1;cases d with
  |bl c =>
   cases p3;exact⟨b,hd.bl_,e10 po x1 st1 _ _ (a10.refl H1) f80⟩
  |_=>cases p3
 ·obtain⟨zA,ρ,z,rr,rel,st,e,po⟩:=q;refine N70 rel st e (N80 po) λb z1 e1 H1 x1 st1=>?_;cases e1;obtain⟨b',e',po⟩:=po;cases e';exact po H1 x1 st1
end
end Q
namespace Q
open PySem L2 PySem.Spec PyProof.Rows
variable [TB:Tb]
section
variable {lm:Bool}{X:Cx}{G:Gs}{E:XK}{N:List Str}{sc:À3}
theorem H70(rel:x90 X.K zA H ρ σ)(st:d70 zA z H)
  (h:M.bind (ev G.F a ρ) (λx=>M.bind (M.of ((pl x).bind asB)) k) z=some r) (her:∀ c z1,r=.er c z1->EPost G zA E c z1 H)
  (hok:∀ b z1,k b z1=some r->∀ H1,Ext zA H H1->d70 zA z1 H1->Q' (.bl b) H1):tI X.K G E a σ H Q':=by
 refine j50 rel st h her λm z1 e1=>?_;obtain⟨b,p1,e2⟩:=M.a30 e1;obtain⟨d,p2,p3⟩:=Ï.mp p1;obtain⟨s1,rfl,q1⟩:=f70 p2;refine⟨s1,rfl,λv H1 x1 st1 rv=>?_⟩;have hd:=rv.pl.d_ q1;cases d with
 |bl c =>
  cases p3;rw[hd.bl_];exact hok b z1 e2 H1 x1 st1
 |_=>cases p3
theorem s82(ga:a70 X G E a l)(hl:∀ t x y p,l≠.IfExp t x y p)
  (gb:a70 X G E b (.BoolOp .And (r::vs) p)):a70 X G E (.and a b) (.BoolOp .And (l::r::vs) p):=by
 have pw:PW X (.BoolOp .And (l::r::vs) p) (tT X.K G E (.and a b)):=by
  refine PW.imp (X01 (ga.pt hl) (gb.pw _ _ _ rfl)) λσ H Q q=>?_;obtain⟨zA,ρ,z,rr,rel,st,e,po⟩:=q;refine N70 rel st e (N80 po) λc z1 e1 H1 x1 st1=>?_;cases c with
  |true =>
   rw[if_pos rfl];rw[if_pos rfl] at e1;refine N70 (rel.mono x1) st1 e1 (λc z2 q=>((N80 po) c z2 q).mono x1) λc z2 e2 H2 x2 st2=>?_;cases e2;obtain⟨b',e',po⟩:=po;cases e';exact po H2 (x1.trans x2) st2
  |false =>
   rw[if_neg Ò];rw[if_neg Ò] at e1;cases e1;obtain⟨b',e',po⟩:=po;cases e';exact po H1 x1 st1
 refine⟨PE.imp (X31 ga.pe gb.pe) λσ H Q q=>?_,λ_=>pw.pt,λop vs p h=>pw⟩;obtain⟨zA,ρ,z,rr,rel,st,e,po⟩:=q;refine H70 rel st e (e90 po) λc z1 e1 H1 x1 st1=>⟨c,rfl,?_⟩;cases c with
 |true =>
  rw[if_pos rfl];rw[if_pos rfl] at e1;refine H70 (rel.mono x1) st1 e1 (λc z2 q=>((e90 po) c z2 q).mono x1) λc z2 e2 H2 x2 st2=>?_;cases e2;exact e10 po (x1.trans x2) st2 _ _ (a10.refl H2) f80
 |false =>
  rw[if_neg Ò];rw[if_neg Ò] at e1;cases e1;exact e10 po x1 st1 _ _ (a10.refl H1) f80
theorem F82(ga:a70 X G E a l)(hl:∀ t x y p,l≠.IfExp t x y p)
  (gb:a70 X G E b (.BoolOp .Or (r::vs) p)):a70 X G E (.or a b) (.BoolOp .Or (l::r::vs) p):=by
 have pw:PW X (.BoolOp .Or (l::r::vs) p) (tT X.K G E (.or a b)):=by
  refine PW.imp (l72 (ga.pt hl) (gb.pw _ _ _ rfl)) λσ H Q q=>?_;obtain⟨zA,ρ,z,rr,rel,st,e,po⟩:=q;refine N70 rel st e (N80 po) λc z1 e1 H1 x1 st1=>?_;cases c with
  |false =>
   rw[if_neg Ò];rw[if_neg Ò] at e1;refine N70 (rel.mono x1) st1 e1 (λc z2 q=>((N80 po) c z2 q).mono x1) λc z2 e2 H2 x2 st2=>?_;cases e2;obtain⟨b',e',po⟩:=po;cases e';exact po H2 (x1.trans x2) st2
  |true =>
   rw[if_pos rfl];rw[if_pos rfl] at e1;cases e1;obtain⟨b',e',po⟩:=po;cases e';exact po H1 x1 st1
 refine⟨PE.imp (m02 ga.pe gb.pe) λσ H Q q=>?_,λ_=>pw.pt,λop vs p h=>pw⟩;obtain⟨zA,ρ,z,rr,rel,st,e,po⟩:=q;refine H70 rel st e (e90 po) λc z1 e1 H1 x1 st1=>⟨c,rfl,?_⟩;cases c with
 |false =>
  rw[if_neg Ò];rw[if_neg Ò] at e1;refine H70 (rel.mono x1) st1 e1 (λc z2 q=>((e90 po) c z2 q).mono x1) λc z2 e2 H2 x2 st2=>?_;cases e2;exact e10 po (x1.trans x2) st2 _ _ (a10.refl H2) f80
 |true =>
  rw[if_pos rfl];rw[if_pos rfl] at e1;cases e1;exact e10 po x1 st1 _ _ (a10.refl H1) f80
theorem d72(gb:a70 X G E b r)(hr:∀ t x y p,r≠.IfExp t x y p):a70 X G E b (.BoolOp op [r] p):=by
 have pw:PW X (.BoolOp op [r] p) (tT X.K G E b):=by
  cases op with
  |And=>exact K11 (gb.pt hr)|Or=>exact W91 (gb.pt hr)
 exact⟨X21 gb.pe,λ_=>pw.pt,λ_ _ _ _=>pw⟩
theorem S90.d82(po:S90 X.K G zA E H Q rr)(x1:Ext zA H H1):S90 X.K G zA E H1 Q rr:=by
 cases rr with
 |er c z1=>exact EPost.mono po x1
 |ok l z2 =>
  obtain⟨s,e',po⟩:=po;exact⟨s,e',λv H' x' st' rv=>po v H' (x1.trans x') st' (rv.from x1)⟩
theorem N90{α:Type}{m:M α}{z:Z}{r:R α}(h:M.calm m z=some r):m z=some r/\∃ a z1,r=.ok a z1:=by
 unfold M.calm at h;split at h
 ·rename_i a z1 e;cases h;exact⟨e,a,z1,rfl⟩
 ·cases h
theorem d92(ha:PE X a ta)(hb:PE X b tb):PE X (.BoolOp .Or [a,b] pos) (λσ H Q=>ta σ H λx H1=>∃ t xs,x=.ref t/\SqT X.K H1 t xs/\if xs.isEmpty=true then tb σ H1 Q else Q x H1):=by
 intro pins s σ H Q I h;refine BoolOp_or (thn (ha pins s σ H _ I h) λv s1 ⟨x,H1,I1,r1,q1⟩=>?_);obtain⟨t,xs,rfl,hq,q1⟩:=q1;obtain⟨its,hv,ht,hl⟩:=I1.tuple hq;have hlen:xs.length=its.length:=hv.length;cases r1;refine truthy_tuple ht (by rw[Ó,← hlen];have:=À8;omega) ?_
 cases xs with
 |nil =>
  cases its with
  |nil=>exact BoolOp_one (hb pins _ σ H1 Q (I1.tok _) q1)|cons _ _=>cases hlen
 |cons y r =>
  cases its with
  |nil=>cases hlen
  |cons _ _=>exact⟨.ref t,H1,I1.tok _,rfl,q1⟩
theorem I11(h:(pl y).bind b12=some l):∃ s,y=[s]/\plD s=some (.tup l):=by
 obtain⟨d,p2,p3⟩:=Ï.mp h;obtain⟨s1,rfl,q1⟩:=f70 p2;cases d with
 |tup l=>cases p3;exact⟨s1,rfl,q1⟩
 |_=>cases p3
theorem s92(ga:a70 X G E a l)(gb:a70 X G E b r):a70 X G E (.orT a b) (.BoolOp .Or [l,r] p):=by
 have no:∀ {zA:Option Æ}{ρ:Env}{z:Z}{rr:R (List S)}{H:Hp}{Q:Bool->Hp->Prop},ev G.F (.orT a b) ρ z=some rr->B51 G zA E H Q rr->False:=λe po=>by
  obtain⟨e,u,z1,rfl⟩:=N90 e;obtain⟨c,rfl,_⟩:=po;rcases M.bind_some e with ⟨m,z2,_,e2⟩ | ⟨c,z2,_,e2⟩
  ·obtain⟨ds,_,e3⟩:=M.a30 e2;split at e3
   ·rcases M.bind_some e3 with ⟨m,z2,_,e2⟩ | ⟨c,z2,_,e2⟩
    ·obtain⟨ds,_,e3⟩:=M.a30 e2;cases e3
    ·cases e2
   ·cases e3
  ·cases e2
 refine⟨PE.imp (d92 ga.pe gb.pe) λσ H Q q=>?_,λ_ pins s σ H Q I ⟨_,_,_,_,_,_,e,po⟩=>(no e po).elim,λ_ _ _ _ wh pins s σ H Q I ⟨_,_,_,_,_,_,e,po⟩=>(no e po).elim⟩;obtain⟨zA,ρ,z,rr,rel,st,e,po⟩:=q;obtain⟨e,u,z1,rfl⟩:=N90 e;refine j50 rel st e (e90 po) λm z1 e1=>?_;obtain⟨ds,p1,e2⟩:=M.a30 e1;obtain⟨s1,rfl,q1⟩:=I11 p1;refine⟨s1,rfl,λv H1 x1 st1 rv=>?_⟩;have hd:=rv.pl.d_ q1;obtain⟨t,xs,rfl,h1,h2⟩:=hd.t90;refine⟨t,xs,rfl,(a00 zA H1).sqT h1,?_⟩;cases ds with
 |nil =>
  cases h2.e50;have po:=po.d82 x1;refine j50 (rel.mono x1) st1 e2 (e90 po) λm z1 e1=>?_;obtain⟨ds,p1,e2⟩:=M.a30 e1;obtain⟨s1,rfl,q1⟩:=I11 p1;cases e2;exact⟨s1,rfl,λv H2 x2 st2 rv=>e10 po x2 st2 _ _ (a10.refl H2) (rv.pl.d_ q1)⟩
 |cons y r =>
  obtain⟨u,w,rfl,_⟩:=h2.b90;cases e2;exact e10 po x1 st1 _ _ (a10.refl H1) hd
theorem t02(gc:a70 X G E c t)(ht:∀ a b d p,t≠.IfExp a b d p)(ga:a70 X G E a x)(gb:a70 X G E b y):a70 X G E (.ite c a b) (.IfExp t x y p):=by
 refine⟨PE.imp (w51 (gc.pt ht) ga.pe gb.pe) λσ H Q q=>?_,λh=>absurd rfl (h t x y p),λop vs p h=>by cases h⟩
 obtain⟨zA,ρ,z,rr,rel,st,e,po⟩:=q;refine N70 rel st e (e90 po) λk z1 e1 H1 x1 st1=>?_;have po1:=po.d82 x1;cases k with
 |true =>
  rw[if_pos rfl];rw[if_pos rfl] at e1;exact⟨zA,ρ,z1,rr,rel.mono x1,st1,e1,po1⟩
 |false =>
  rw[if_neg Ò];rw[if_neg Ò] at e1;exact⟨zA,ρ,z1,rr,rel.mono x1,st1,e1,po1⟩
theorem F92(x:XI lm X G E N sc)(hs:s40 s=true)(ga:a70 X G E a l)(gb:a70 X G E b r)(gc:a70 X G E c s):a70 X G E (.ch o o' a b c) (.Compare l [opC o,opC o'] [r,s] pos):=by
 have hm:lastMarks [opC o,opC o'] [r,s]=false:=n61 hs _;have key:∀ σ H Q,tI X.K G E (.ch o o' a b c) σ H Q->h01 (rD2 X.K λa b=>(C50 o a b).map λc=>.d (.bl c)) (rD2 X.K λa b=>(C50 o' a b).map λc=>.d (.bl c)) (tI X.K G E a) (tI X.K G E b) (tI X.K G E c) σ H Q:=λσ H Q q=>by
  obtain⟨zA,ρ,z,rr,rel,st,e,po⟩:=q;refine X40 rel st e (e90 po) λdx dy z2 v w H2 e2 x2 st2 h1 h2=>?_;obtain⟨k,hk,e3⟩:=M.a30 e2;refine⟨zA,z2,dx,dy,.d (.bl k),st2,h1,h2,by show Ë9 _ (C50 o dx dy)=_;rw[hk];rfl,λv3 H3 sm rv=>⟨k,Hd.bl_ (show Hd X.K (hz zA H3) (.bl k) v3 from rv),?_⟩⟩
  have x3:=x2.trans (Ext.of sm);have st3:=st2.same sm;cases k with
  |true =>
   rw[if_pos rfl];rw[if_pos rfl] at e3;refine j50 (rel.mono x3) st3 e3 (λc z2 q=>((e90 po) c z2 q).mono x3) λm z4 e4=>?_;obtain⟨dw,p1,e5⟩:=M.a30 e4;obtain⟨k',hk',e6⟩:=M.a30 e5;obtain⟨s1,rfl,q1⟩:=f70 p1;cases e6;refine⟨s1,rfl,λv4 H4 x4 st4 rv4=>?_⟩;exact⟨zA,z4,dy,dw,_,st4,(h2.same (a10.trans (h50 sm) x4)),rv4.pl.d_ q1,by show Ë9 _ (C50 o' dy dw)=_;rw[hk'];rfl,e10 po (x3.trans x4) st4⟩
  |false =>
   rw[if_neg Ò];rw[if_neg Ò] at e3;cases e3;exact e10 po x3 st3 _ _ (a10.refl H3) f80
 refine⟨PE.imp (w91 (V81 x.room.units o) (V81 x.room.units o') ga.pe gb.pe gc.pe hm) key,λ_=>PT.imp (x01 (V81 x.room.units o) (V81 x.room.units o') ga.pe gb.pe gc.pe hm) λσ H Q q=>?_,λop vs p h=>by cases h⟩
 obtain⟨zA,ρ,z,rr,rel,st,e,po⟩:=q;exact key σ H _ ⟨zA,ρ,z,rr,rel,st,e,n71 po⟩
theorem I21:∀ σ H Q,tI X.K G E (.bf f as) σ H Q->tCB (rDn X.K (bfD f)) (tA X.K G E as) σ H Q:=λσ H Q q=>by
 obtain⟨zA,ρ,z,rr,rel,st,e,po⟩:=q;refine e31 rel st e (e90 po) λl z1 e1 vs H1 x1 st1 rvs=>?_;obtain⟨ds,hd,e2⟩:=M.a30 e1;obtain⟨s,hs,e3⟩:=M.a30 e2;cases e3;exact⟨zA,z1,ds,s,st1,H60 rvs hd,hs,e10 po x1 st1⟩
theorem e41(x:XI lm X G E N sc){f:Bf}{as:Ex}{n:Str}{id:String}{e:Î}{l:List Î}{p pos:Pos}(hc:f00 X (.builtin id) (rDn X.K (bfD f)))(hb:n∈Q61)(hv:ì n=some (.builtin id))(hg:glob sc n=true)(hL:isL as=true)(g:Good X G E as (e::l)):a70 X G E (.bf f as) (.Call (.Name n p) (e::l) [] pos):=by
 obtain⟨k1,k2,k3⟩:=d60 hg;obtain⟨ha,hs⟩:=g.args hL;rw[Ä3,Á] at hs;exact a90 (PE.imp (E90 hc (x.glb n k1) (x.blt n hb) hv ha k3 k2 (d10 hs.1 l X.env) (s30 X.env pos hs.2)) I21) rfl
theorem B61(x:XI lm X G E N sc){f:Bf}{as:Ex}{n:Str}{T:String}{e:Î}{l:List Î}{p pos:Pos}(hc:f00 X (.type T) (rDn X.K (bfD f)))(hb:n∈Q61)(hv:ì n=some (.type T))(hg:glob sc n=true)(hL:isL as=true)(g:Good X G E as (e::l)):a70 X G E (.bf f as) (.Call (.Name n p) (e::l) [] pos):=by
 obtain⟨k1,k2,k3⟩:=d60 hg;obtain⟨ha,hs⟩:=g.args hL;rw[Ä3,Á] at hs;exact a90 (PE.imp (L20 hc (x.glb n k1) (x.blt n hb) hv ha k3 k2 (d10 hs.1 l X.env) (s30 X.env pos hs.2)) I21) rfl
theorem e02:ì "len"=some (.builtin "len"):=by decide +kernel
theorem n81:ì "sorted"=some (.builtin "sorted"):=by decide +kernel
theorem e12:ì "all"=some (.builtin "all"):=by decide +kernel
theorem e22:ì "any"=some (.builtin "any"):=by decide +kernel
theorem e32:ì "min"=some (.builtin "min"):=by decide +kernel
theorem e42:ì "max"=some (.builtin "max"):=by decide +kernel
theorem s50:ì "isinstance"=some (.builtin "isinstance"):=by decide +kernel
theorem e52:ì "int"=some (.type "int"):=by decide +kernel
theorem H80:ì "tuple"=some (.type "tuple"):=by decide +kernel
theorem T10:ì "list"=some (.type "list"):=by decide +kernel
theorem Q81:ì "dict"=some (.type "dict"):=by decide +kernel
theorem D70{K:Â}{H H1:Hp}(sm:a10 H H1):∀ {l:List D}{ys:List V}{kss:List (List Int)},HdA K H l ys->O21 l=some kss->Á7 (λy ks=>∃ t b,y=V.ref t/\SqT K H1 t [.ref b,.bl true]/\SqT K H1 b (ks.map V.int)) ys kss
 |[],_,_,h,e=>by rw[h.e50];cases e;exact .nil
 |d::l,_,_,h,e=>by
  obtain⟨v,r,rfl,h1,h2⟩:=h.b90;obtain⟨k,e1,e2⟩:=Ï.mp (show(prD d).bind _=_ from e);obtain⟨q,e3,rfl⟩:=Ê.mp e2;refine .cons ?_ (D70 sm h2 e3);unfold prD at e1;split at e1
  ·rename_i t b;cases b with
   |false=>cases e1
   |true =>
    obtain⟨b,xs,rfl,k1,k2⟩:=h1.t90;obtain⟨y1,y2,rfl,j1,j2⟩:=k2.two;obtain⟨c,zs,rfl,g1,g2⟩:=j1.t90;obtain⟨rfl,_⟩:=u50 (show j40 t=some k from e1) g2;have j2:y2=.bl true:=by unfold Hd at j2;exact j2
    subst j2;exact⟨b,c,rfl,sm.sqT k1,sm.sqT g1⟩
  ·cases e1
theorem e62{K:Â}{zA:Option Æ}{z:Z}{H:Hp}{d:Æ}{kss:List (List Int)}(st:d70 zA z H)(hd:zA≠some d)(h:Q00 K H d kss):Q00 K (hz zA H) d kss:=by
 obtain⟨xs,h1,h2,h3,h4⟩:=h;exact⟨xs,c40 h1 hd,h2,λx hx=>st.v91 (h3 x hx),h4⟩
theorem Q91(hc:X.calm=true)(hu:X.A.units + 64 < Â4):f00 X (.type "dict") (rDn X.K (bfD .dict)):=by
 intro pins s σ H xs us Q I r h;obtain⟨zA,z,ds,w,st,hx,e,q⟩:=h
 match ds,e with
 |[.lst l],e =>
  obtain⟨kss,e1,rfl⟩:=Ê.mp (show(O21 l).map _=some w from e);obtain⟨x,rfl,h1⟩:=hx.one;obtain⟨a,ys,rfl,k1,k2⟩:=h1.N30;exact d91 hc ∅ pins s σ H _ us Q I r ⟨a,ys,kss,rfl,(k1.same (a00 zA H)).sq,D70 (a00 zA H) k2 e1,λd H2 sm hn ok=>q _ _ sm ⟨d,rfl,e62 (st.same sm) (st.D40 hn) ok⟩⟩
theorem G02(x:XI lm X G E N sc){f:Bf}{as:Ex}{n:Str}{e:Î}{l:List Î}{p pos:Pos}(hf:served f=true)(hn:n=(bfN f).1)(hg:glob sc n=true)(hL:isL as=true)(g:Good X G E as (e::l)):a70 X G E (.bf f as) (.Call (.Name n p) (e::l) [] pos):=by
 subst hn;cases f with
 |len=>exact e41 x c22 (-0) e02 hg hL g|tuple=>exact B61 x B01 (-0) H80 hg hL g|list=>exact B61 x P81 (-0) T10 hg hL g|min=>exact e41 x (c52 x.calm) (-0) e32 hg hL g|max=>exact e41 x (c62 x.calm) (-0) e42 hg hL g|all=>exact e41 x (c32 x.calm) (-0) e12 hg hL g|any=>exact e41 x (c42 x.calm) (-0) e22 hg hL g|int=>exact B61 x c72 (-0) e52 hg hL g|sorted=>exact e41 x (n41 x.room.units) (-0) n81 hg hL g|dict=>exact B61 x (Q91 x.calm x.room.units) (-0) Q81 hg hL g|_=>cases hf
theorem t12(t:Ty)(h:t≠.seq):ç (tyN t)∈Q61/\ì (ç (tyN t))=some (.type (tyN t))/\tyN t∈["int","bool","tuple","list","str"]:=by
 cases t with
 |seq=>exact absurd rfl h|_=>decide +kernel
theorem e72(x:XI lm X G E N sc){t:Ty}{a:Ex}{n:Str}{e:Î}{p pos p2:Pos}(hs:t≠.seq)
  (hg2:glob sc (ç (tyN t))=true) (hn:n="isinstance") (hg:glob sc n=true) (ns:noStar e=true) (ga:a70 X G E a e):a70 X G E (.isi t a) (.Call (.Name n p) [e,.Name (ç (tyN t)) p2] [] pos):=by
 obtain⟨hb,hv,ht⟩:=t12 t hs;subst hn;obtain⟨k1,k2,k3⟩:=d60 hg;obtain⟨m1,m2,m3⟩:=d60 hg2;refine a90 (PE.imp (E90 z81 (x.glb _ k1) (x.blt _ (-0)) s50 (g10 ga.pe (g10 (Q60 (v:=.ty (tyN t)) (x.glb _ m1) (x.blt _ hb) hv rfl m3 m2) r50) (d10 ns _ _)) k3 k2 (d10 ns _ _) rfl) λσ H Q q=>?_) rfl
 obtain⟨zA,ρ,z,rr,rel,st,e,po⟩:=q;refine j50 rel st e (e90 po) λm z1 e1=>?_;obtain⟨d,p1,e2⟩:=M.a30 e1;obtain⟨s1,rfl,q1⟩:=f70 p1;cases e2;refine⟨s1,rfl,λv H1 x1 st1 rv=>⟨d,v,tyN t,rfl,((rv.pl.d_ q1).same (a00 zA H1)).has,ht,?_⟩⟩;rw[P91 t d hs];exact e10 po x1 st1 _ _ (a10.refl H1) f80
theorem e82(x:XI lm X G E N sc){a:Ex}{n:Str}{e:Î}{p pos p1 p2 p3:Pos}{k:Nat}(hg2:glob sc "tuple"=true)(hg3:glob sc "list"=true)(hn:n="isinstance")(hg:glob sc n=true)(ns:noStar e=true)(ga:a70 X G E a e) :
  a70 X G E (.isi .seq a) (.Call (.Name n p) [e,.Tuple [.Name "tuple" p1,.Name "list" p2] k p3] [] pos):=by
 subst hn;obtain⟨k1,k2,k3⟩:=d60 hg;obtain⟨m1,m2,m3⟩:=d60 hg2;obtain⟨l1,l2,l3⟩:=d60 hg3;refine a90 (PE.imp (E90 k31 (x.glb _ k1) (x.blt _ (-0)) s50 (g10 ga.pe (g10 (G51 (g10 (Q60 (v:=.ty "tuple") (x.glb _ m1) (x.blt _ (-0)) H80 rfl m3 m2)
  (g10 (Q60 (v:=.ty "list") (x.glb _ l1) (x.blt _ (-0)) T10 rfl l3 l2) r50))) r50) (d10 ns _ _)) k3 k2 (d10 ns _ _) rfl) λσ H Q q=>?_) rfl
 obtain⟨zA,ρ,z,rr,rel,st,e,po⟩:=q;refine j50 rel st e (e90 po) λm z1 e1=>?_;obtain⟨d,p1,e2⟩:=M.a30 e1;obtain⟨s1,rfl,q1⟩:=f70 p1;cases e2;refine⟨s1,rfl,λv H1 x1 st1 rv=>⟨by show 2<=sizeLine;rw[À8];decide,λt ht=>?_⟩⟩
 have sm:a10 H1 (upd H1 t (.tup [.ty "tuple",.ty "list"])):=a10.new _ ht;refine⟨d,v,t,rfl,((rv.pl.d_ q1).same (a10.trans (a00 zA H1) sm)).has,SqT.of b10,?_⟩;rw[B31 d];exact e10 po x1 st1 _ _ sm f80
theorem t22(hs:T00 x=true)(ga:a70 X G E a v)(gi:a70 X G E i x):a70 X G E (.idx a i) (.Subscript v x pos):=by
 refine a90 (PE.imp (Z21 ixD ga.pe gi.pe (D50 hs)) λσ H Q q=>?_) rfl;obtain⟨zA,ρ,z,rr,rel,st,e,po⟩:=q;refine X40 rel st e (e90 po) λdx dy z2 v w H2 e2 x2 st2 h1 h2=>?_;obtain⟨c,hc,e3⟩:=M.a30 e2;cases e3;exact⟨zA,z2,dx,dy,_,st2,h1,h2,by show Ë9 _ (l81 dx dy)=_;rw[hc];rfl,e10 po x2 st2⟩
theorem e92(x:XI lm X G E N sc){i k:Nat}{n:Str}{c:Nat}{p q pos:Pos}(h1:N[i]?=some n)(h2:b50 n=true):a70 X G E (.zget i k) (.Subscript (.Name n p) (.Constant (.int k) c q) pos):=by
 unfold b50 at h2;simp only[Á,ú] at h2;refine a90 (PE.imp (Z21 i21 (l60 (i:=i) (by rw[x.hN];exact h1) (x.vis n (ê h1)) h2.1 h2.2) g01 (D50 rfl)) λσ H Q qq=>?_) rfl
 obtain⟨zA,ρ,z,rr,rel,st,e,po⟩:=qq;have e0:m01 k ρ[i]? z=some rr:=e;unfold m01 at e0;split at e0
 ·rename_i p hs;obtain⟨v,hv,a,hz',rfl⟩:=rel i .z hs;subst hz';have st':H a=some (.lst [.int p.1,.bl p.2]):=st.zat;refine⟨_,hv,a,[.int p.1,.bl p.2],(k:Int),?_⟩;split at e0
  ·rename_i hk;subst hk;cases e0;obtain⟨s',e',po⟩:=po;cases e';exact⟨_,rfl,rfl,SqL.of st',rfl,po _ H Ext.refl st h60⟩
  ·split at e0
   ·rename_i hk;subst hk;cases e0;obtain⟨s',e',po⟩:=po;cases e';exact⟨_,rfl,rfl,SqL.of st',rfl,po _ H Ext.refl st (w01 Hd.bl)⟩
   ·cases e0
 ·cases e0
theorem X50(a:Int):∀ (n:Nat) {its:List Ä},its.length=n->(∀ i,i < n->∃ v t,its[i]?=some v/\v=.int (a + (i:Nat)) t)->Vals ((í n).map λ(k:Nat)=>V.int (a + k)) its:=by
 intro n its hl h;have:∀ (m:Nat) (l:List Ä) (o:Nat),l.length=m->(∀ i,i < m->∃ v t,l[i]?=some v/\v=.int (a + (o + i:Nat)) t)->Vals ((Ã0 o m 1).map λ(k:Nat)=>V.int (a + k)) l:=by
  intro m
  induction m with
  |zero =>
   intro l o hl _;rw[List.length_eq_zero_iff.mp hl];exact .nil
  |succ m ih =>
   intro l o hl h;cases l with
   |nil=>cases hl
   |cons x r =>
    obtain⟨v,t,e1,e2⟩:=h 0 (Nat.succ_pos m);simp only[Þ0,Ñ3] at e1;subst e1;rw[Ê3,Ã5];refine .cons ⟨t,by rw[e2];simp⟩ (ih r (o + 1) (by simpa using hl) λi hi=>?_)
    obtain⟨v,t,e1,e2⟩:=h (i + 1) (Nat.succ_lt_succ hi);exact⟨v,t,by simpa using e1,by rw[e2];congr 1;omega⟩
 rw[Æ3];exact this n its 0 hl λi hi=>by
  obtain⟨v,t,e1,e2⟩:=h i hi;exact⟨v,t,e1,by rw[e2];simp⟩
theorem n91:ì "range"=some (.type "range"):=by decide +kernel
def lrV:List V->Option (Int × Int)
 |[.int j]=>some (0,j)|[.int i,.int j]=>some (i,j)|_=>none
def lrO:Bool->List V->HO
 |true=>HO.tup|false=>HO.lst
def lrT:Bool->String
 |true=>"tuple"|false=>"list"
def t32(b:Bool)(ta:TA):TE:=λσ H Q=>ta σ H λvs H1=>∃ i j:Int,lrV vs=some (i,j)/\-100000 < i/\i < 100000/\-100000 < j/\j < 100000/\∀ l,H1 l=none->Q (.ref l) (upd H1 l (lrO b ((í (j - i).toNat).map λ(k:Nat)=>V.int (i + k))))
theorem f02{pins:List (Æ × Obj)}{σ:L2.St}{H1:Hp}{s1:Å}{r:Æ}{i j:Int}{t u v:Tok}{Q:VK}(hc:X.calm=true)(I2:Inv X pins σ H1 s1)(hr:Ò2 s1.heap r i j 1 t u v)(i1:-100000 < i)(i2:i < 100000)(j1:-100000 < j)(j2:j < 100000)
  (q:∀ l,H1 l=none->Q (.ref l) (upd H1 l (.lst ((í (j - i).toNat).map λ(k:Nat)=>V.int (i + k))))):Ñ (Ø X.prog X.w) X.A (call (.type "list") [.ref r]) (EP X pins σ Q) X.xe s1:=by
 have hz:Â2 i j 1=(((j - i).toNat:Nat):Int):=by rw[rangeSize_one];split <;> omega
 refine call_list_range (n:=(j - i).toNat) (I2.ok.hd hc) hr (small_one ∅ ∅ ∅ ∅) hz ∅ λh' tk acc' c' kp hS hacc=>?_
 have rv:Vals ((í (j - i).toNat).map λ(k:Nat)=>V.int (i + k)) acc'.toList:=by
  refine X50 i (j - i).toNat ?_ λi hi=>?_
  ·rw[È7];exact hacc.1
  ·have hlt:i < acc'.size:=by rw[hacc.1];exact hi
   obtain⟨t,e⟩:=hacc.2 i acc'[i] (È0 hlt);exact⟨acc'[i],t,by rw[ý];exact È0 hlt,by rw[e];simp⟩
 have hlen:((í (j - i).toNat).map λ(k:Nat)=>V.int (i + k)).length<=sizeLine:=by rw[È,ð,À8];omega
 have hn:=I2.hok.fresh (É _);exact⟨.ref _,_,I2.laid (t':=tk) kp (É _) (show h40 X.prog X.w _ h' _ (.lst _) from⟨hlen,acc'.toList,c',rv,by rw[Í2];exact hS⟩),rfl,q _ hn⟩
theorem R01{pins:List (Æ × Obj)}{σ:L2.St}{H1:Hp}{s1:Å}{r:Æ}{i j:Int}{t u v:Tok}{Q:VK}(hc:X.calm=true)(I2:Inv X pins σ H1 s1)(hr:Ò2 s1.heap r i j 1 t u v)(i1:-100000 < i)(i2:i < 100000)(j1:-100000 < j)(j2:j < 100000)
  (q:∀ l,H1 l=none->Q (.ref l) (upd H1 l (.tup ((í (j - i).toNat).map λ(k:Nat)=>V.int (i + k))))):Ñ (Ø X.prog X.w) X.A (call (.type "tuple") [.ref r]) (EP X pins σ Q) X.xe s1:=by
 have hz:Â2 i j 1=(((j - i).toNat:Nat):Int):=by rw[rangeSize_one];split <;> omega
 refine HT.tuple_range (n:=(j - i).toNat) (I2.ok.hd hc) hr (small_one ∅ ∅ ∅ ∅) hz ∅ λh' tk acc' kp hsz hacc=>?_
 have rv:Vals ((í (j - i).toNat).map λ(k:Nat)=>V.int (i + k)) acc'.toList:=by
  refine X50 i (j - i).toNat ?_ λi hi=>?_
  ·rw[È7];exact hacc.1
  ·have hlt:i < acc'.size:=by rw[hacc.1];exact hi
   obtain⟨t,e⟩:=hacc.2 i acc'[i] (È0 hlt);exact⟨acc'[i],t,by rw[ý];exact È0 hlt,by rw[e];simp⟩
 have hlen:((í (j - i).toNat).map λ(k:Nat)=>V.int (i + k)).length<=sizeLine:=by rw[È,ð,À8];omega
 exact⟨.ref _,_,I2.laid (t':=tk) (λb o e=>Ã _ (kp b o e)) hsz (show h40 X.prog X.w _ _ _ (.tup _) from⟨hlen,acc'.toList,rv,⟨_,Ì _ rfl,rfl,0,by rw[Í2]⟩⟩),rfl,q _ (I2.hok.fresh hsz)⟩
theorem o01(b:Bool){pins:List (Æ × Obj)}{σ:L2.St}{H1:Hp}{s1:Å}{r:Æ}{i j:Int}{t u v:Tok}{Q:VK}(hc:X.calm=true)(I2:Inv X pins σ H1 s1)(hr:Ò2 s1.heap r i j 1 t u v)(i1:-100000 < i)(i2:i < 100000)(j1:-100000 < j)(j2:j < 100000)
  (q:∀ l,H1 l=none->Q (.ref l) (upd H1 l (lrO b ((í (j - i).toNat).map λ(k:Nat)=>V.int (i + k))))):Ñ (Ø X.prog X.w) X.A (call (.type (lrT b)) [.ref r]) (EP X pins σ Q) X.xe s1:=by
 cases b with
 |true=>exact R01 hc I2 hr i1 i2 j1 j2 q|false=>exact f02 hc I2 hr i1 i2 j1 j2 q
theorem t42(b:Bool):ì (lrN b)=some (.type (lrT b)):=by
 cases b with
 |true=>exact H80|false=>exact T10
theorem o11(b:Bool){e:Î}{l:List Î}{ta:TA}{p p2 pos pos2:Pos}(hc:X.calm=true)(hg:Gl X (lrN b))(hm:X.mg (lrN b)=none)(hg2:Gl X "range")(hm2:X.mg "range"=none)(ha:PA X (e::l) ta)(hs:noStar e=true)(hs2:l.all noStar=true) :
  PE X (.Call (.Name (lrN b) p) [.Call (.Name "range" p2) (e::l) [] pos2] [] pos) (t32 b ta):=by
 intro pins s σ H Q I h;refine Call_ (r40 I hg hm (t42 b) (À0 (Calls.spliced_cons ?_) rfl rfl) (by cases b <;> decide) (by cases b <;> decide))
 refine Call_ (r40 I hg2 hm2 n91 (À0 (thn (ha pos2 pins s σ H _ I h) λus s1 ⟨vs,H1,I1,r1,q1⟩=>?_) (d10 hs l X.env) (s30 X.env pos2 hs2)));obtain⟨i,j,hv,i1,i2,j1,j2,q⟩:=q1
 match vs,hv with
 |[.int _],hv =>
  cases hv;obtain⟨u,rfl,r⟩:=vals1 r1;obtain⟨t,rfl⟩:=r;exact call_range_1 (Õ5 (o01 b hc (I1.kept λb o e=>Ã _ e) (Ò2.new ..) i1 i2 j1 j2 q))
 |[.int _,.int _],hv =>
  cases hv;obtain⟨u,u',rfl,r,r'⟩:=vals2 r1;obtain⟨t,rfl⟩:=r;obtain⟨t',rfl⟩:=r';exact call_range_2 (Õ5 (o01 b hc (I1.kept λb o e=>Ã _ e) (Ò2.new ..) i1 i2 j1 j2 q))
theorem B71:∀ {ds xs:List D},lrD ds=some xs->∃ i j:Int,((ds=[.int j]/\i=0)∨ds=[.int i,.int j])/\-100000 < i/\i < 100000/\-100000 < j/\j < 100000/\xs=(í (j - i).toNat).map λ(k:Nat)=>D.int (i + k)
 |[],_,h=>by cases h
 |[x],xs,h=>by
  cases x with
  |int j =>
   obtain⟨hj,h⟩:=f10 h;have hj:=G80.mp hj;exact⟨0,j,.inl ⟨rfl,rfl⟩,by omega,by omega,hj.1,hj.2,by cases h;simp⟩
  |_=>cases h
 |[x,y],xs,h=>by
  cases x with
  |int i =>
   cases y with
   |int j =>
    obtain⟨hj,h⟩:=f10 h;have h1:=G80.mp hj.1;have h2:=G80.mp hj.2;exact⟨i,j,.inr rfl,h1.1,h1.2,h2.1,h2.2,by cases h;rfl⟩
   |_=>cases h
  |_=>cases h
 |x::y::_::_,_,h=>by
  cases x with
  |int i=>cases y <;> cases h
  |_=>cases h
theorem f12(x:XI lm X G E N sc){b:Bool}{as:Ex}{a:Î}{l:List Î}{p p2 pos pos2:Pos}(h1:glob sc (lrN b)=true)(h2:glob sc "range"=true)(hL:isL as=true)(g:Good X G E as (a::l)):a70 X G E (.lrng b as) (.Call (.Name (lrN b) p) [.Call (.Name "range" p2) (a::l) [] pos2] [] pos):=by
 obtain⟨k1,_,_⟩:=d60 h1;obtain⟨m1,_,_⟩:=d60 h2;obtain⟨ha,hs⟩:=g.args hL;rw[Ä3,Á] at hs;refine a90 (PE.imp (o11 b x.calm (x.glb _ k1) (x.blt _ (by cases b <;> decide)) (x.glb _ m1) (x.blt _ (-0)) ha hs.1 hs.2) λσ H Q q=>?_) rfl
 obtain⟨zA,ρ,z,rr,rel,st,e,po⟩:=q;refine e31 rel st e (e90 po) λl z1 e1 vs H1 x1 st1 rvs=>?_;obtain⟨xs,hx,e2⟩:=M.a30 e1;cases e2;obtain⟨s',e',po⟩:=po;cases e';obtain⟨ds,h3,h4⟩:=Ï.mp hx;have hd:=H60 rvs h3;have fin:∀ i j:Int,xs=(í (j - i).toNat).map (λ(k:Nat)=>D.int (i + k))->∀ lA,H1 lA=none->Q (.ref lA) (upd H1 lA (lrO b ((í (j - i).toNat).map λ(k:Nat)=>V.int (i + k)))):=λi j ex lA hn=>by
  subst ex;have hI:=HdA.ints (K:=X.K) (H:=hz zA H1) ((í (j - i).toNat).map λ(k:Nat)=>i + (k:Int));rw[æ,æ] at hI;cases b with
  |false=>exact po _ _ (x1.trans (Ext.of (a10.new _ hn))) (st1.same (a10.new _ hn)) ((p00 st1 hI hn).from x1)|true=>exact po _ _ (x1.trans (Ext.of (a10.new _ hn))) (st1.same (a10.new _ hn)) (w01 (Hd.tup ((st1.same (a10.new _ hn)).v91 (SqT.of b10)) (hI.same (h50 (a10.new _ hn)))))
 obtain⟨i,j,hds,j1,j2,j3,j4,ex⟩:=B71 h4;refine⟨i,j,?_,j1,j2,j3,j4,fin i j ex⟩;rcases hds with ⟨rfl,rfl⟩ | rfl
 ·obtain⟨v,rfl,h5⟩:=hd.one;cases h5.i40;rfl
 ·obtain⟨v,w,rfl,h5,h6⟩:=hd.two;cases h5.i40;cases h6.i40;rfl
def tPO(K:Â)(G:Gs)(E:XK)(x:Ex):TO:=λσ H Q=>∃ zA ρ z r,x90 K zA H ρ σ/\d70 zA z H/\ev G.F x ρ z=some r/\(match r with
 |.ok l z'=>∃ o,l91 l=some o/\∀ H',Ext zA H H'->d70 zA z' H'->Q o H'
 |.er c z'=>EPost G zA E c z' H)
theorem f22(hL:isL x=true)(g:Good X G E x e.toList):PO X e (tPO X.K G E x):=by
 cases e with
 |none =>
  cases x with
  |nil =>
   refine λpins s σ H Q I q=>K91 pins s σ H Q I ?_;obtain⟨zA,ρ,z,r,rel,st,e,po⟩:=q;cases e;obtain⟨o,e',po⟩:=po;cases e';exact po H Ext.refl st
  |cons a r=>obtain⟨e,es,h,_⟩:=g;cases h
  |_=>cases hL
 |some e =>
  cases x with
  |nil=>cases (show [e]=[] from g)
  |cons a r =>
   obtain⟨e',es,h,ns,ga,lr,gr⟩:=g;cases h;refine λpins s σ H Q I q=>L01 ga.pe pins s σ H Q I ?_;obtain⟨zA,ρ,z,rr,rel,st,e,po⟩:=q;have her:∀ c z1,rr=.er c z1->EPost G zA E c z1 H:=λc z1 e=>by subst e;exact po
   have rn:r=.nil:=by
    cases r with
    |nil=>rfl|cons b q=>obtain⟨e,es,h,_⟩:=gr;cases h
    |_=>cases lr
   subst rn;refine j50 rel st e her λl z1 e1=>?_;obtain⟨s,hs,e2⟩:=M.a30 e1;cases e2;obtain⟨o,e',po⟩:=po;refine⟨s,A40 hs,λv H1 x1 st1 rv=>?_⟩;cases s with
   |d y =>
    cases y with
    |int i =>
     cases e';exact⟨i,Hd.i40 (show Hd X.K (hz zA H1) (.int i) v from rv),po H1 x1 st1⟩
    |_=>cases e'
   |_=>cases e'
  |_=>cases hL
theorem G12{a lo hi:Ex}{v:Î}{l h:Option Î}{p pos:Pos}(ga:a70 X G E a v)(hl:isL lo=true)(hh:isL hi=true)(gl:Good X G E lo l.toList)(gh:Good X G E hi h.toList):a70 X G E (.sl a lo hi) (.Subscript v (.Slice l h none p) pos):=by
 refine a90 (PE.imp (x31 F02 ga.pe (f22 hl gl) (f22 hh gh)) λσ H Q q=>?_) rfl;obtain⟨zA,ρ,z,rr,rel,st,e,po⟩:=q;refine j50 rel st e (e90 po) λm z1 e1=>?_;obtain⟨dx,p1,e2⟩:=M.a30 e1;obtain⟨s1,rfl,q1⟩:=f70 p1;refine⟨s1,rfl,λw H1 x1 st1 rv=>?_⟩;rcases M.bind_some e2 with ⟨u,z2,e3,e4⟩ | ⟨c,z2,e3,e4⟩
 ·obtain⟨o,ho,e5⟩:=M.a30 e4;refine⟨zA,ρ,z1,_,rel.mono x1,st1,e3,o,ho,λH2 x2 st2=>?_⟩;rcases M.bind_some e5 with ⟨u',z3,e6,e7⟩ | ⟨c,z3,e6,e7⟩
  ·obtain⟨o',ho',e8⟩:=M.a30 e7;refine⟨zA,ρ,z2,_,(rel.mono x1).mono x2,st2,e6,o',ho',λH3 x3 st3=>?_⟩;obtain⟨s,hs,e9⟩:=M.a30 e8;cases e9;exact⟨zA,z3,dx,s,st3,((rv.pl.mono (x2.trans x3)).d_ q1),hs,e10 po ((x1.trans x2).trans x3) st3⟩
  ·exact⟨zA,ρ,z2,_,(rel.mono x1).mono x2,st2,e6,((e90 po) c z3 e7).mono (x1.trans x2)⟩
 ·exact⟨zA,ρ,z1,_,rel.mono x1,st1,e3,((e90 po) c z2 e4).mono x1⟩
theorem f32:∀ {x:Ex}{es:List Î}{z z1:Z}{l:List S},isL x=true->Good X G E x es->ev G.F x ρ z=some (.ok l z1)->l.length=es.length:=by
 intro x
 induction x with
 |nil =>
  intro es z z1 l _ h e;have h:es=[]:=h;subst h;cases e;rfl
 |cons a r _ ih =>
  intro es z z1 l _ h e;obtain⟨e',es',rfl,ns,g,lr,gr⟩:=h;rcases M.bind_some e with ⟨m,z2,e1,e2⟩ | ⟨c,z2,e1,e2⟩
  ·obtain⟨s,hs,e3⟩:=M.a30 e2;rcases M.bind_some e3 with ⟨m',z3,e4,e5⟩ | ⟨c,z3,e4,e5⟩
   ·cases e5;rw[ß,ß,ih lr gr e4]
   ·cases e5
  ·cases e2
 |_=>intro es z z1 l h;cases h
theorem s_call(x:XI lm X G E N sc){f:Nat}{as:Ex}{n:Str}{ps:List Str}{e:Î}{l:List Î}{p pos:Pos}(hf:G.fns[f]?=some (n,ps))(hl:ps.length=l.length + 1)(hg:glob sc n=true)(hL:isL as=true)(g:Good X G E as (e::l)) :
  a70 X G E (.call f as) (.Call (.Name n p) (e::l) [] pos):=by
 obtain⟨k1,k2,k3⟩:=d60 hg;obtain⟨fa,fd,m1,m2,m3,F⟩:=x.gok f n ps hf;obtain⟨ha,hs⟩:=g.args hL;rw[Ä3,Á] at hs;refine a90 (PE.imp (K61 F x.room (x.glb n k1) m1 m2 m3 .nil x.pas ha k2 (d10 hs.1 l X.env) (s30 X.env pos hs.2)) λσ H Q q=>?_) rfl;obtain⟨zA,ρ,z,rr,rel,st,e,po⟩:=q;have e0:M.bind (ev G.F as ρ) (λl=>M.bind (G.F false f (l.map plS)) λs=>M.ret [s]) z=some rr:=e;rcases M.bind_some e0 with ⟨m,z1,e1,e2⟩ | ⟨c,z1,e1,e2⟩
 ·refine⟨zA,ρ,z,_,rel,st,e1,λvs H1 x1 st1 rvs=>?_⟩;have hv:vs.length=ps.length:=by rw[← rvs.length,f32 hL g e1,hl];rfl
  show spF X.K G f ps.length (vs++[]) H1 Q E;rw[append_nil];refine⟨hv,zA,z1,m.map plS,?_⟩;have ra:RvA X.K zA H1 (m.map plS) vs:=RvA.plS (Á7.V51 rvs λ_ _ q=>q.pl);rcases M.bind_some e2 with ⟨s,z2,e3,e4⟩ | ⟨c,z2,e3,e4⟩
  ·cases e4;refine⟨_,ra,st1,e3,λv H2 x2 st2 rv=>?_⟩;obtain⟨s',e',po⟩:=po;cases e';exact po v H2 (x1.trans x2) st2 (rv.from x1)
  ·exact⟨_,ra,st1,e3,((e90 po) c z2 e4).mono x1⟩
 ·exact⟨zA,ρ,z,_,rel,st,e1,(e90 po) c z1 e2⟩
def l12:Pat->Nat
 |.nil=>0|.cons _ r=>l12 r + 1|_=>0
mutual
noncomputable def gP(K:Â):Pat->TG
 |.v i=>K20 i|.tup ps=>x12 K (l12 ps) (gL K ps)|.nil=>λ_ _ _ _=>False|.cons _ _=>λ_ _ _ _=>False
noncomputable def gL(K:Â):Pat->TGs
 |.nil=>x02|.cons p r=>X61 (gP K p) (gL K r)|.v _=>λ_ _ _ _=>False|.tup _=>λ_ _ _ _=>False
end
end
end Q
namespace Q
open PySem L2 PySem.Spec PyProof.Rows
variable [TB:Tb]
theorem I31(h:noStar e=true)(es:List Î)(env:Æ1):È3 (e::es) env=(false,Õ2 e env)::È3 es env:=by
 cases e <;> first | rfl | cases h
structure B81(X:Cx)(N:List Str)(loc:Str->Bool):Prop where
 hN:X.N=N
 nd:N.Nodup
 lc:∀ x,loc x=true->Loc X.env.scope x
 fn:∀ x,loc x=true->(X.fn x=true∨X.env.scope.names.lookup x=some .local)
 calm:X.calm=true
theorem D80:∀ {es:List Î} (env:Æ1),es.all noStar=true->(È3 es env).length=es.length/\(È3 es env).findIdx? (·.1)=none
 |[],_,_=>⟨rfl,rfl⟩
 |e::es,env,h=>by
  rw[Ä3,Á] at h;obtain⟨h1,h2⟩:=D80 env h.2;rw[I31 h.1];refine⟨by rw[ß,ß,h1],?_⟩
  rw[List.findIdx?_cons,h2];rfl
theorem X60:∀ {r:Pat}{es:List Î},X30 N loc r es=true->es.length=l12 r/\es.all noStar=true
 |.nil,es,h=>by
  unfold X30 at h;have:es=[]:=Ç9.mp h;subst this;exact⟨rfl,rfl⟩
 |.cons p r,es,h=>by
  unfold X30 at h;cases es with
  |nil=>cases h
  |cons e es =>
   rw[Á,Á] at h;obtain⟨h1,h2⟩:=X60 (r:=r) h.2;exact⟨by rw[ß,h1];rfl,by rw[Ä3,h.1.1,h2];rfl⟩
 |.v _,_,h=>by unfold X30 at h;cases h
 |.tup _,_,h=>by unfold X30 at h;cases h
mutual
theorem e51(L:B81 X N loc):∀ {p:Pat}{e:Î},g70 N loc p e=true->PG X e (gP X.K p)
 |.v i,e,h=>by
  unfold g70 at h;cases e with
  |Name x pos =>
   rw[Á,beq_iff_eq] at h;unfold gP;exact g31 (by rw[L.hN];exact L.nd) (by rw[L.hN];exact h.1) (L.lc x h.2) (L.fn x h.2)
  |_=>cases h
 |.tup ps,e,h=>by
  unfold g70 at h;cases e with
  |Tuple es k pos =>
   obtain⟨h1,h2⟩:=X60 h;obtain⟨h3,h4⟩:=D80 X.env h2;unfold gP;exact X71 L.calm (I41 L h) (by rw[h3,h1]) h4
  |_=>cases h
 |.nil,e,h=>by unfold g70 at h;cases h
 |.cons _ _,e,h=>by unfold g70 at h;cases h
theorem I41(L:B81 X N loc):∀ {r:Pat}{es:List Î},X30 N loc r es=true->PGs X es (gL X.K r)
 |.nil,es,h=>by
  unfold X30 at h;have:es=[]:=Ç9.mp h;subst this;unfold gL;exact K41
 |.cons p r,es,h=>by
  unfold X30 at h;cases es with
  |nil=>cases h
  |cons e es =>
   rw[Á,Á] at h;unfold gL;exact w61 (e51 L h.1.2) (I41 L h.2) (by rw[I31 h.1.1];rfl)
 |.v _,_,h=>by unfold X30 at h;cases h
 |.tup _,_,h=>by unfold X30 at h;cases h
end
section
variable {K:Â}{zA:Option Æ}{H:Hp}
theorem x90.set{ρ:Env}{σ:L2.St}{i:Nat}{s:S}{v:V}(h:x90 K zA H ρ σ)(hl:ρ.length=σ.length)(r:RvP K zA H s v):x90 K zA H (ρ.set i (some s)) (σ.set i (some v)):=by
 intro j t e;by_cases hj:j=i
 ·subst hj;have hlt:j < ρ.length:=by
   have:=(ä.mp e).1;simpa using this
  rw[à hlt] at e;cases e;exact⟨v,à (by rw[← hl];exact hlt),r⟩
 ·rw[Õ (À1 hj)] at e;obtain⟨w,h1,h2⟩:=h j t e;exact⟨w,by rw[Õ (À1 hj)];exact h1,h2⟩
theorem A50:∀ {r:Pat}{l:List D}{ρ ρ':Env},bindL r l ρ=some ρ'->l.length=l12 r
 |.nil,l,ρ,ρ',e=>by
  unfold bindL at e;cases l with
  |nil=>rfl|cons x l=>cases e
 |.cons p r,l,ρ,ρ',e=>by
  unfold bindL at e;cases l with
  |nil=>cases e
  |cons x l =>
   obtain⟨ρ1,e1,e2⟩:=Ï.mp e;rw[ß,A50 e2];rfl
 |.v _,_,_,_,e=>by unfold bindL at e;cases e
 |.tup _,_,_,_,e=>by unfold bindL at e;cases e
mutual
theorem o21:∀ {p:Pat}{d:D}{ρ ρ':Env},e40 p d ρ=some ρ'->∀ {σ:L2.St}{v:V}{R:L2.St->Hp->Prop},x90 K zA H ρ σ->ρ.length=σ.length->Hd K (hz zA H) d v ->
  (∀ σ',x90 K zA H ρ' σ'->ρ'.length=σ'.length->R σ' H)->gP K p v σ H R
 |.v i,d,ρ,ρ',e,σ,v,R,rel,hl,hd,k=>by
  unfold e40 at e;cases e;unfold gP;exact k _ (rel.set hl (show RvP K zA H (.d d) v from hd)) (by rw[À6,À6,hl])
 |.tup ps,d,ρ,ρ',e,σ,v,R,rel,hl,hd,k=>by
  unfold e40 at e;cases d with
  |tup l =>
   obtain⟨a,xs,rfl,h1,h2⟩:=hd.t90;unfold gP;exact⟨a,xs,rfl,(a00 zA H).sqT h1,by rw[h2.length];exact A50 e,X70 e rel hl h2 k⟩
  |_=>cases e
 |.nil,_,_,_,e,_,_,_,_,_,_,_=>by unfold e40 at e;cases e
 |.cons _ _,_,_,_,e,_,_,_,_,_,_,_=>by unfold e40 at e;cases e
theorem X70:∀ {r:Pat}{l:List D}{ρ ρ':Env},bindL r l ρ=some ρ'->∀ {σ:L2.St}{vs:List V}{R:L2.St->Hp->Prop},x90 K zA H ρ σ->ρ.length=σ.length->HdA K (hz zA H) l vs ->
  (∀ σ',x90 K zA H ρ' σ'->ρ'.length=σ'.length->R σ' H)->gL K r vs σ H R
 |.nil,l,ρ,ρ',e,σ,vs,R,rel,hl,hd,k=>by
  unfold bindL at e;cases l with
  |nil =>
   cases e;unfold gL;exact⟨hd.e50,k σ rel hl⟩
  |cons x l=>cases e
 |.cons p r,l,ρ,ρ',e,σ,vs,R,rel,hl,hd,k=>by
  unfold bindL at e;cases l with
  |nil=>cases e
  |cons x l =>
   obtain⟨ρ1,e1,e2⟩:=Ï.mp e;obtain⟨v,ws,rfl,h1,h2⟩:=hd.b90;unfold gL;exact⟨v,ws,rfl,o21 e1 rel hl h1 λσ' r' l'=>X70 e2 r' l' h2 k⟩
 |.v _,_,_,_,e,_,_,_,_,_,_,_=>by unfold bindL at e;cases e
 |.tup _,_,_,_,e,_,_,_,_,_,_,_=>by unfold bindL at e;cases e
end
end
end Q
namespace Q
open PySem L2 PySem.Spec PyProof.Rows
variable [TB:Tb]
structure t52(K:PySem.W.Frag)(zA:Option Addr)(J:L2.It)(xs:List D)(H1:Hp):Prop where
 go:∀ i H,Ext zA H1 H->i < xs.length->J.go i H
 yld:∀ i H x H' z d,Ext zA H1 H->d70 zA z H->J.yld i H x H'->xs[i]?=some d->a10 H H'/\Hd K (hz zA H') d x
 stop:∀ H,Ext zA H1 H->J.stop xs.length H
structure ItB(K:PySem.W.Frag)(J:L2.It)(xs:List D)(B:Hp):Prop where
 go:∀ i H,a10 B H->i < xs.length->J.go i H
 yld:∀ i H x H' zA z d,a10 B (hz zA H)->d70 zA z H->J.yld i H x H'->xs[i]?=some d->a10 H H'/\∀ C,a10 B C->(∀ a ys,SqT K (hz zA H') a ys->SqT K C a ys)->Hd K C d x
 stop:∀ H,a10 B H->J.stop xs.length H
section
variable {K:Â}{B:Hp}
theorem ItB.ok(h:ItB K J xs (hz zA H1)):t52 K zA J xs H1 :=
 ⟨λi H x=>h.go i H (a10.trans x (a00 zA H)),λi H x H' z d e st y k=>let ⟨s,f⟩:=h.yld i H x H' zA z d e st y k;⟨s,f _ (a10.trans e (h50 s)) λ_ _ q=>q⟩,λH x=>h.stop H (a10.trans x (a00 zA H))⟩
theorem X80(h:o60 K B a ys)(r:HdA K B xs ys):ItB K (Itl K a) xs B where
 go:=λi H x hi=>⟨ys,ys[i]'(by rw[r.length];exact hi),(h.same x).sq,by simp⟩
 yld:=λi H v H' zA z d x st y e=>by
  obtain⟨rfl,y⟩:=y;have y1:=y ys ((h.same x).same (a00 zA _)).sq;obtain⟨w,e1,e2⟩:=r.get e;rw[y1] at e1;cases e1;exact⟨a10.refl _,λC c _=>e2.same c⟩
 stop:=λH x=>⟨ys,(h.same x).sq,by rw[r.length];exact É _⟩
theorem o31(h:SqT K B a ys)(r:HdA K B xs ys):ItB K (Itt K a) xs B where
 go:=λi H x hi=>⟨ys,ys[i]'(by rw[r.length];exact hi),a10.sqT x h,by simp⟩
 yld:=λi H v H' zA z d x st y e=>by
  obtain⟨rfl,y⟩:=y;have y1:=y ys ((a00 zA _).sqT (a10.sqT x h));obtain⟨w,e1,e2⟩:=r.get e;rw[y1] at e1;cases e1;exact⟨a10.refl _,λC c _=>e2.same c⟩
 stop:=λH x=>⟨ys,a10.sqT x h,by rw[r.length];exact É _⟩
theorem o41(lo:Int)(n:Nat):ItB K (Itr lo n) ((í n).map λ(k:Nat)=>D.int (lo + k)) B where
 go:=λi H x hi=>by show i < n;simpa using hi
 yld:=λi H v H' zA z d x st y e=>by
  obtain⟨rfl,rfl⟩:=y;rw[Þ] at e;obtain⟨k,e1,rfl⟩:=Ê.mp e;obtain⟨h1,h2⟩:=ä.mp e1;rw[List.getElem_range] at h2;subst h2;exact⟨a10.refl _,λ_ _ _=>Hd.int⟩
 stop:=λH x=>by show n<=_;simp
end
section
variable {K:Â}{zA:Option Æ}{H1:Hp}
theorem zip_get:∀ {a b:List D}{i:Nat}{d:D},(x70 a b)[i]?=some d->∃ x y,a[i]?=some x/\b[i]?=some y/\d=.tup [x,y]
 |[],_,_,_,e=>by simp[x70] at e|_::_,[],_,_,e=>by simp[x70] at e|x::r,y::q,0,d,e=>by simp[x70] at e;exact⟨x,y,rfl,rfl,e.symm⟩
 |x::r,y::q,i + 1,d,e=>by
  obtain⟨u,v,h1,h2,h3⟩:=zip_get (a:=r) (b:=q) (i:=i) (by simpa [x70] using e)
  exact⟨u,v,by simpa using h1,by simpa using h2,h3⟩
theorem T20:∀ (a b:List D),(x70 a b).length=min a.length b.length
 |[],_=>by simp[x70]|_::_,[]=>by simp[x70]|x::r,y::q=>by simp only[x70,ß,T20 r q];omega
theorem o51(h:∀ H,a10 B H->SqB bb K H a us)(r:HdA K B xs us)(h':∀ H,a10 B H->SqB bb K H b ws)(r':HdA K B ys ws):ItB K (Itz bb K a b) (x70 xs ys) B where
 go:=λi H x hi=>by
  rw[T20] at hi;exact⟨us,ws,us[i]'(by rw[r.length];omega),ws[i]'(by rw[r'.length];omega),h H x,h' H x,by simp,by simp⟩
 yld:=λi H v H' zA z d x st y e=>by
  obtain⟨T,rfl,hT,y⟩:=y;obtain⟨d1,d2,e1,e2,rfl⟩:=zip_get e;obtain⟨w1,f1,g1⟩:=r.get e1;obtain⟨w2,f2,g2⟩:=r'.get e2;have y1:=y us ws w1 w2 (h H (a10.trans x (a00 zA H))) (h' H (a10.trans x (a00 zA H))) f1 f2;subst y1;have sm:a10 H (upd H T (.tup [w1,w2])):=a10.new _ hT;exact⟨sm,λC c t=>Hd.tup (t _ _ ((st.same sm).v91 (SqT.of b10))) (.cons (g1.same c) (.cons (g2.same c) .nil))⟩
 stop:=λH x=>⟨us,ws,h H x,h' H x,by rw[T20,r.length,r'.length];omega⟩
end
def PX(P:D->Prop):D->Prop
 |.tup l=>∀ y∈l,P y|.lst l=>∀ y∈l,P y|_=>True
def ItX(K:Â)(zA:Option Æ)(H H':Hp)(l:List S)(J:L2.It)(xs:List D):Prop :=
 ∀ (P:D->Prop) (B:Hp),a10 B (hz zA H')->(∀ a ys,SqT K (hz zA H') a ys->SqT K B a ys)->(∀ d v,P d->Hd K (hz zA H') d v->Hd K B d v)->(∀ ds,plA l=some ds->∀ d∈ds,PX P d) ->
  (∀ a ys,o60 K (hz zA H') a ys->((H a=none/\H' a=some (.lst ys))∨e11 l=true)->o60 K B a ys)->ItB K J xs B
theorem HdA.move{K:Â}{H B:Hp}{P:D->Prop}(mv:∀ d v,P d->Hd K H d v->Hd K B d v):∀ {ds:List D}{vs:List V},(∀ y∈ds,P y)->HdA K H ds vs->HdA K B ds vs
 |[],_,_,h=>by rw[h.e50];exact .nil
 |d::ds,_,p,h=>by
  obtain⟨x,r,rfl,h1,h2⟩:=h.b90;exact .cons (mv d x (p d Ë) h1) (HdA.move mv (λy hy=>p y (Í _ hy)) h2)
theorem ItX.ok{K:Â}{zA:Option Æ}{H H':Hp}{l:List S}{J:L2.It}{xs:List D}(h:ItX K zA H H' l J xs):t52 K zA J xs H':=by
 refine(h (λ_=>True) (hz zA H') (a10.refl _) (λ_ _ q=>q) (λ_ _ _ q=>q) (λds _ d _=>?_) λ_ _ q _=>q).ok;cases d <;> first | trivial | exact λ_ _=>trivial
def tIt(K:Â)(G:Gs)(E:XK)(it:It)(src:Ex):TI:=λσ H R=>∃ zA ρ z r,x90 K zA H ρ σ/\d70 zA z H/\ev G.F src ρ z=some r/\(match r with
 |.ok l z'=>∃ xs,(plA l).bind (itD it)=some xs/\∀ J H',Ext zA H H'->d70 zA z' H'->ItX K zA H H' l J xs->R J H'
 |.er c z'=>EPost G zA E c z' H)
section
variable {lm:Bool}{X:Cx}{G:Gs}{E:XK}{N:List Str}{sc:À3}
theorem f42{zA:Option Æ}{H:Hp}{it:It}{P:L2.It->Hp->Prop}{r:R (List S)}(po:(match r with | .ok l z'=>∃ xs,(plA l).bind (itD it)=some xs/\∀ J H',Ext zA H H'->d70 zA z' H'->ItX X.K zA H H' l J xs->P J H' | .er c z'=>EPost G zA E c z' H)):∀ c z1,r=.er c z1->EPost G zA E c z1 H:=λc z1 e=>by subst e;exact po
theorem o61{s:S}{ds:List D}(h:plA [s]=some ds):∃ d,ds=[d]/\plD s=some d:=by
 cases s with
 |d x=>cases h;exact⟨x,rfl,rfl⟩
 |fr xs=>cases h;exact⟨_,rfl,rfl⟩
 |_=>cases h
theorem I51{tg e:Î}{a:Ex}(g:a70 X G E a e):PI X tg e (tIt X.K G E .seq (.cons a .nil)):=by
 intro pins s σ H R I q;obtain⟨zA,ρ,z,rr,rel,st,ee,po⟩:=q;have e0:M.bind (ev G.F a ρ) (λx=>M.bind (M.of (one x)) λs=>M.bind (ev G.F .nil ρ) λy=>M.ret (s::y)) z=some rr:=ee;rcases M.bind_some e0 with ⟨m,z1,e1,e2⟩ | ⟨c,z1,e1,e2⟩
 ·obtain⟨t,ht,e3⟩:=M.a30 e2;cases e3;have hm:=A40 ht;subst hm;obtain⟨xs,hx,po⟩:=po;obtain⟨ds,h1,h2⟩:=Ï.mp hx;obtain⟨d,rfl,h3⟩:=o61 h1;cases d with
  |tup l =>
   cases h2;refine G41 g.pe pins s σ H R I ⟨zA,ρ,z,_,rel,st,e1,t,rfl,λv H1 x1 st1 rv=>?_⟩;obtain⟨b,ys,rfl,k1,k2⟩:=(rv.pl.d_ h3).t90;exact⟨b,rfl,⟨ys,(a00 zA H1).sqT k1⟩,po _ H1 x1 st1 λP B sub tup mv pa sf=>o31 (tup _ _ k1) (HdA.move mv (show ∀ y∈xs,P y from pa _ h1 _ Ë) k2)⟩
  |lst l =>
   cases h2;refine Q80 g.pe pins s σ H R I ⟨zA,ρ,z,_,rel,st,e1,t,rfl,λv H1 x1 st1 rv=>?_⟩;have fin:∀ {b:Æ}{ys:List V},o60 X.K (hz zA H1) b ys->HdA X.K (hz zA H1) xs ys->((H b=none/\H1 b=some (.lst ys))∨e11 [t]=true)->∃ a,V.ref b=.ref a/\(∃ xs,SqL X.K H1 a xs)/\R (Itl X.K a) H1:=λ{b ys} k1 k2 k5=>by
    exact⟨b,rfl,⟨ys,(k1.same (a00 zA H1)).sq⟩,po _ H1 x1 st1 λP B sub tup mv pa sf=>X80 (sf _ _ k1 k5) (HdA.move mv (show ∀ y∈xs,P y from pa _ h1 _ Ë) k2)⟩
   cases t with
   |d x =>
    cases h3;obtain⟨b,ys,rfl,k1,k2⟩:=Hd.N30 (show Hd X.K (hz zA H1) (.lst xs) v from rv);exact fin k1 k2 (.inr rfl)
   |fr x =>
    cases h3;obtain⟨b,ys,rfl,k0,k1,k2,k3⟩:=rv;exact fin (o60.of (c40 k2 k1)) (k3.same (d50 b _)) (.inl ⟨k0,k2⟩)
   |_=>cases h3
  |_=>cases h2
 ·exact Q80 g.pe pins s σ H R I ⟨zA,ρ,z,_,rel,st,e1,(f42 po) c z1 e2⟩
theorem H90{l:List S}{it:It}{xs:List D}(h:(plA l).bind (itD it)=some xs):∃ ds,plA l=some ds/\itD it ds=some xs:=Ï.mp h
theorem o71(x:XI lm X G E N sc){tg a:Î}{as:Ex}{n:Str}{p pos:Pos}(hn:n="range")(hg:glob sc n=true)(hL:isL as=true)(g:Good X G E as [a]):PI X tg (.Call (.Name n p) [a] [] pos) (tIt X.K G E .rng1 as):=by
 subst hn;obtain⟨k1,k2,k3⟩:=d60 hg;obtain⟨ha,hs⟩:=g.args hL;rw[Ä3,Á] at hs;intro pins s σ H R I q;refine g51 (x.glb _ k1) (x.blt _ (-0)) ha (d10 hs.1 [] X.env) pins s σ H R I ?_
 obtain⟨zA,ρ,z,rr,rel,st,ee,po⟩:=q;refine⟨zA,ρ,z,rr,rel,st,ee,?_⟩;cases rr with
 |er c z1=>exact po
 |ok l z1 =>
  obtain⟨xs,hx,po⟩:=po;intro vs H1 x1 st1 rvs;obtain⟨ds,h1,h2⟩:=H90 hx;have hd:=H60 rvs h1
  match ds,h2 with
  |[.int j],h2 =>
   obtain⟨hj,h2⟩:=f10 h2;have hj:=G80.mp hj;cases h2;obtain⟨v,rfl,h3⟩:=hd.one;cases h3.i40;refine⟨j,rfl,by omega,by omega,po _ H1 x1 st1 λP B sub tup mv pa sf=>?_⟩
   have:=o41 (K:=X.K) (B:=B) 0 j.toNat;simpa using this
theorem o81(x:XI lm X G E N sc){tg a b:Î}{as:Ex}{n:Str}{p pos:Pos}(hn:n="range")(hg:glob sc n=true)(hL:isL as=true)(g:Good X G E as [a,b]):PI X tg (.Call (.Name n p) [a,b] [] pos) (tIt X.K G E .rng2 as):=by
 subst hn;obtain⟨k1,k2,k3⟩:=d60 hg;obtain⟨ha,hs⟩:=g.args hL;rw[Ä3,Ä3,Á,Á] at hs;intro pins s σ H R I q;refine g61 (x.glb _ k1) (x.blt _ (-0)) ha (by rw[d10 hs.1,d10 hs.2.1];rfl) (d10 hs.2.1 [] X.env) pins s σ H R I ?_
 obtain⟨zA,ρ,z,rr,rel,st,ee,po⟩:=q;refine⟨zA,ρ,z,rr,rel,st,ee,?_⟩;cases rr with
 |er c z1=>exact po
 |ok l z1 =>
  obtain⟨xs,hx,po⟩:=po;intro vs H1 x1 st1 rvs;obtain⟨ds,h1,h2⟩:=H90 hx;have hd:=H60 rvs h1
  match ds,h2 with
  |[.int i,.int j],h2 =>
   obtain⟨hj,h2⟩:=f10 h2;have hi:=G80.mp hj.1;have hj:=G80.mp hj.2;cases h2;obtain⟨v,w,rfl,h3,h4⟩:=hd.two;cases h3.i40;cases h4.i40;exact⟨i,j,rfl,by omega,po _ H1 x1 st1 λP B sub tup mv pa sf=>o41 i (j - i).toNat⟩
theorem o91{s:S}{r:List S}{ds:List D}(h:plA (s::r)=some ds):∃ x q,ds=x::q/\plD s=some x/\plA r=some q:=by
 cases s with
 |d y =>
  obtain⟨q,e,rfl⟩:=Ê.mp h;exact⟨y,q,rfl,rfl,e⟩
 |fr y =>
  obtain⟨q,e,rfl⟩:=Ê.mp h;exact⟨_,q,rfl,rfl,e⟩
 |_=>cases h
theorem R11(h:plA l=some [x,y]):∃ s t,l=[s,t]/\plD s=some x/\plD t=some y:=by
 cases l with
 |nil=>cases h
 |cons s r =>
  obtain⟨_,_,e,h1,h2⟩:=o91 h;cases e;cases r with
  |nil=>cases h2
  |cons t r =>
   obtain⟨_,_,e,h3,h4⟩:=o91 h2;cases e;cases r with
   |nil=>exact⟨s,t,rfl,h1,h3⟩
   |cons u r =>
    obtain⟨_,_,e,_⟩:=o91 h4;cases e
theorem B91{s t:S}(h:e11 [s]=true):e11 [s,t]=true:=by
 match s,h with
 |.d (.lst _),_=>rfl
theorem C01{s t:S}(h:e11 [t]=true):e11 [s,t]=true:=by
 match s with
 |.d (.lst _)=>rfl|.d .non | .d (.bl _) | .d (.int _) | .d (.str _) | .d (.tup _) | .d .dct | .fr _ | .z=>exact h|.ks _=>exact h
theorem p01{K:Â}{zA:Option Æ}{H H1:Hp}{t:S}{v:V}{a:List D}(rv:RvS K zA H H1 t v)(h:plD t=some (.lst a)):∃ b ys,v=.ref b/\o60 K (hz zA H1) b ys/\HdA K (hz zA H1) a ys/\((H b=none/\H1 b=some (.lst ys))∨e11 [t]=true):=by
 cases t with
 |d x =>
  cases h;obtain⟨b,ys,rfl,k1,k2⟩:=Hd.N30 (show Hd K (hz zA H1) (.lst a) _ from rv);exact⟨b,ys,rfl,k1,k2,.inr rfl⟩
 |fr x =>
  cases h;obtain⟨b,ys,rfl,k0,k1,k2,k3⟩:=rv;exact⟨b,ys,rfl,o60.of (c40 k2 k1),k3.same (d50 b _),.inl ⟨k0,k2⟩⟩
 |_=>cases h
theorem p11(x:XI lm X G E N sc){tg a b:Î}{as:Ex}{n:Str}{p pos:Pos}(ht:k20 tg=true)(hn:n="zip")(hg:glob sc n=true)(hL:isL as=true)(g:Good X G E as [a,b]):PI X tg (.Call (.Name n p) [a,b] [] pos) (tIt X.K G E .zip as):=by
 subst hn;obtain⟨k1,k2,k3⟩:=d60 hg;obtain⟨ha,hs⟩:=g.args hL;rw[Ä3,Ä3,Á,Á] at hs;cases tg with
 |Tuple es ek ep =>
  intro pins s σ H R I q;refine Z71 (x.glb _ k1) (x.blt _ (-0)) ha (by rw[d10 hs.1,d10 hs.2.1];rfl) (d10 hs.2.1 [] X.env) pins s σ H R I ?_
  obtain⟨zA,ρ,z,rr,rel,st,ee,po⟩:=q;refine⟨zA,ρ,z,rr,rel,st,ee,?_⟩;cases rr with
  |er c z1=>exact po
  |ok l z1 =>
   obtain⟨xs,hx,po⟩:=po;intro vs H1 x1 st1 rvs;obtain⟨ds,h1,h2⟩:=H90 hx;have hd:=H60 rvs h1
   match ds,h2 with
   |[.tup a,.tup b],h2 =>
    cases h2;obtain⟨v,w,rfl,h3,h4⟩:=hd.two;obtain⟨p1,us,rfl,m1,m2⟩:=h3.t90;obtain⟨p2,ws,rfl,m3,m4⟩:=h4.t90;exact⟨false,p1,p2,rfl,⟨us,(a00 zA H1).sqT m1⟩,⟨ws,(a00 zA H1).sqT m3⟩,po _ H1 x1 st1 λP B sub tup mv pa sf=>o51 (λ_ x=>a10.sqT x (tup _ _ m1)) (HdA.move mv (show ∀ y∈a,P y from pa _ h1 _ Ë) m2) (λ_ x=>a10.sqT x (tup _ _ m3)) (HdA.move mv (show ∀ y∈b,P y from pa _ h1 _ (Í _ Ë)) m4)⟩
   |[.lst a,.lst b],h2 =>
    cases h2;obtain⟨t1,t2,rfl,e1,e2⟩:=R11 h1;cases rvs with
    |cons rv1 rn =>
     cases rn with
     |cons rv2 rn =>
      cases rn;obtain⟨p1,us,rfl,m1,m2,m3⟩:=p01 rv1 e1;obtain⟨p2,ws,rfl,m4,m5,m6⟩:=p01 rv2 e2;refine⟨true,p1,p2,rfl,⟨us,(m1.same (a00 zA H1)).sq⟩,⟨ws,(m4.same (a00 zA H1)).sq⟩,po _ H1 x1 st1 λP B sub tup mv pa sf=>o51 (λ_ x=>((sf _ _ m1 (m3.imp id λq=>?_)).same x).sq) (HdA.move mv (show ∀ y∈a,P y from pa _ h1 _ Ë) m2) (λ_ x=>((sf _ _ m4 (m6.imp id λq=>?_)).same x).sq) (HdA.move mv (show ∀ y∈b,P y from pa _ h1 _ (Í _ Ë)) m5)⟩
      ·exact B91 q
      ·exact C01 q
 |_=>cases ht
theorem X90:∀ {a:List D}{i n:Nat}{d:D},(u40 a n)[i]?=some d->∃ x,a[i]?=some x/\d=.tup [.int ((n + i:Nat):Int),x]
 |[],_,_,_,e=>by simp[u40] at e|x::r,0,n,d,e=>by simp[u40] at e;exact⟨x,rfl,e.symm⟩
 |x::r,i + 1,n,d,e=>by
  obtain⟨u,h1,h2⟩:=X90 (a:=r) (i:=i) (n:=n + 1) (by simpa [u40] using e)
  exact⟨u,by simpa using h1,by rw[h2,show n + 1 + i=n + (i + 1) by omega]⟩
theorem s60:∀ (a:List D) (n:Nat),(u40 a n).length=a.length
 |[],_=>rfl|x::r,n=>by simp only[u40,ß,s60 r]
theorem Y00(h:∀ H,a10 B H->SqB b X.K H a us)(r:HdA X.K B xs us):ItB X.K (Ite b X.K a) (u40 xs 0) B where
 go:=λi H x hi=>by
  rw[s60] at hi;exact⟨us,us[i]'(by rw[r.length];omega),h H x,by simp⟩
 yld:=λi H v H' zA z d x st y e=>by
  obtain⟨T,rfl,hT,y⟩:=y;obtain⟨d1,e1,rfl⟩:=X90 e;obtain⟨w1,f1,g1⟩:=r.get e1;have y1:=y us w1 (h H (a10.trans x (a00 zA H))) f1;subst y1;have sm:a10 H (upd H T (.tup [.int i,w1])):=a10.new _ hT;exact⟨sm,λC c t=>Hd.tup (t _ _ ((st.same sm).v91 (SqT.of b10))) (.cons (by rw[zero_add];exact Hd.int) (.cons (g1.same c) .nil))⟩
 stop:=λH x=>⟨us,h H x,by rw[s60,r.length]⟩
theorem R21(h:plA l=some [d]):∃ s,l=[s]:=by
 cases l with
 |nil=>cases h
 |cons s r =>
  cases r with
  |nil=>exact⟨s,rfl⟩|cons t q=>exfalso;cases s <;> cases t <;> first | (cases h;done) | (simp only[plA,Option.map_map,Ð9] at h;obtain⟨_,_,h⟩:=h;cases h)
theorem I00(x:XI lm X G E N sc){tg a:Î}{as:Ex}{n:Str}{p pos:Pos}(ht:k20 tg=true)(hn:n="enumerate")(hg:glob sc n=true)(hL:isL as=true)(g:Good X G E as [a]):PI X tg (.Call (.Name n p) [a] [] pos) (tIt X.K G E .enum as):=by
 subst hn;obtain⟨k1,k2,k3⟩:=d60 hg;obtain⟨ha,hs⟩:=g.args hL;rw[Ä3,Á] at hs;cases tg with
 |Tuple es ek ep =>
  intro pins s σ H R I q;refine N31 (x.glb _ k1) (x.blt _ (-0)) ha (d10 hs.1 [] X.env) pins s σ H R I ?_
  obtain⟨zA,ρ,z,rr,rel,st,ee,po⟩:=q;refine⟨zA,ρ,z,rr,rel,st,ee,?_⟩;cases rr with
  |er c z1=>exact po
  |ok l z1 =>
   obtain⟨xs,hx,po⟩:=po;intro vs H1 x1 st1 rvs;obtain⟨ds,h1,h2⟩:=H90 hx;have hd:=H60 rvs h1
   match ds,h2 with
   |[.tup a],h2 =>
    cases h2;obtain⟨v,rfl,h3⟩:=hd.one;obtain⟨p1,us,rfl,m1,m2⟩:=h3.t90;exact⟨false,p1,rfl,⟨us,(a00 zA H1).sqT m1⟩,po _ H1 x1 st1 λP B sub tup mv pa sf=>Y00 (λ_ x=>a10.sqT x (tup _ _ m1)) (HdA.move mv (show ∀ y∈a,P y from pa _ h1 _ Ë) m2)⟩
   |[.lst a],h2 =>
    cases h2;have fin:∀ (b:Æ) (ys:List V),o60 X.K (hz zA H1) b ys->HdA X.K (hz zA H1) a ys->((H b=none/\H1 b=some (.lst ys))∨e11 l=true)->∃ bb p,[V.ref b]=[.ref p]/\(∃ xs,SqB bb X.K H1 p xs)/\R (Ite bb X.K p) H1:=λb ys k1 k2 k5 =>
     ⟨true,b,rfl,⟨ys,(k1.same (a00 zA H1)).sq⟩,po _ H1 x1 st1 λP B sub tup mv pa sf=>Y00 (λ_ x=>((sf _ _ k1 k5).same x).sq) (HdA.move mv (show ∀ y∈a,P y from pa _ h1 _ Ë) k2)⟩
    obtain⟨t,rfl⟩:=R21 h1;cases rvs with
    |cons rv rn =>
     cases rn;cases t with
     |d x =>
      cases h1;obtain⟨b,ys,rfl,k1,k2⟩:=Hd.N30 (show Hd X.K (hz zA H1) (.lst a) _ from rv);exact fin _ _ k1 k2 (.inr rfl)
     |fr x =>
      cases h1;obtain⟨b,ys,rfl,k0,k1,k2,k3⟩:=rv;exact fin _ _ (o60.of (c40 k2 k1)) (k3.same (d50 b _)) (.inl ⟨k0,k2⟩)
     |_=>cases h1
 |_=>cases ht
abbrev EF:XK:=λ_ _ _=>False
def ttC(K:Â)(G:Gs):Ex->TT
 |.nil=>c51|.cons c _=>tT K G EF c|_=>λ_ _ _=>False
theorem e61(h:turns f (x::r) z=some (.ok ys z2)):∃ o z1 l,f x z=some (.ok o z1)/\turns f r z1=some (.ok l z2)/\ys=(match o with | some y=>y::l | none=>l):=by
 rcases M.bind_some (show M.bind (f x) _ z=_ from h) with ⟨o,z1,e1,e2⟩ | ⟨c,z1,e1,e2⟩
 ·rcases M.bind_some e2 with ⟨l,z3,e3,e4⟩ | ⟨c,z3,e3,e4⟩
  ·cases e4;exact⟨o,z1,l,e1,e3,rfl⟩
  ·cases e4
 ·cases e2
theorem R31{zA:Option Æ}{J:L2.It}{xs ys:List D}{H1:Hp}{z1 z2:Z}{p:Pat}{cond el:Ex}{ρ0:Env}{σ0:L2.St}{Q:VK}(IT:t52 X.K zA J xs H1)(hm:xs.length<=most)(rel0:x90 X.K zA H1 ρ0 σ0)(len:ρ0.length=σ0.length)(st1:d70 zA z1 H1)
  (hc:cond=.nil∨∃ c,cond=.cons c .nil) (e:turns (o50 (ev G.F cond) (ev G.F el) p ρ0) xs z1=some (.ok ys z2))
  (fin:∀ H2 vs l,Ext zA H1 H2->d70 zA z2 H2->HdA X.K (hz zA H2) ys vs->H2 l=none->Q (.ref l) (upd H2 l (.lst vs))):x71 J σ0 H1 (gP X.K p) (ttC X.K G cond) (tI X.K G EF el) Q:=by
 refine⟨λi m vs H=>m=xs.length - i/\i<=xs.length/\vs.length<=i/\∃ yd z rest,Ext zA H1 H/\d70 zA z H/\HdA X.K (hz zA H) yd vs/\turns (o50 (ev G.F cond) (ev G.F el) p ρ0) (xs.drop i) z=some (.ok rest z2)/\ys=yd++rest,
  ⟨xs.length,rfl,Å2 _,Å2 _,[],z1,ys,Ext.refl,st1,.nil,by simpa using e,rfl⟩,?_⟩
 rintro i m vs H ⟨rfl,hi,hv,yd,z,rest,x,st,hd,et,ey⟩;by_cases hlt:i < xs.length
 ·refine .inr ⟨IT.go i H x hlt,Ì9 hv (Ö hlt (f90 hm)),
   λws H'=>ws.length<=i + 1/\∃ yd z rest,Ext zA H1 H'/\d70 zA z H'/\HdA X.K (hz zA H') yd ws/\turns (o50 (ev G.F cond) (ev G.F el) p ρ0) (xs.drop (i + 1)) z=some (.ok rest z2)/\ys=yd++rest,
   λws H' q=>⟨xs.length - (i + 1),by omega,rfl,hlt,q.1,q.2⟩,λv H' y=>?_⟩
  obtain⟨sm,hx⟩:=IT.yld i H v H' z xs[i] x st y (by simp[hlt])
  rw[Ý0 hlt] at et;obtain⟨o,z3,l,f1,f2,f3⟩:=e61 et;obtain⟨ρ',b1,f4⟩:=M.a30 (show M.bind (M.of (e40 p xs[i] ρ0)) _ z=_ from f1);have x':Ext zA H1 H':=x.trans (Ext.of sm);have st':=st.same sm;refine o21 b1 (rel0.mono x') len hx λσ' rel' len'=>?_;have yes:∀ {za:Z}{Ha:Hp},Ext zA H' Ha->d70 zA za Ha->M.bind (ev G.F el ρ') (λy=>M.bind (M.of (pl y)) λy=>M.ret (some y)) za=some (.ok o z3)->tI X.K G EF el σ' Ha (λy H4=>(vs++[y]).length<=i + 1/\∃ yd z rest,Ext zA H1 H4/\d70 zA z H4/\HdA X.K (hz zA H4) yd (vs++[y])/\turns (o50 (ev G.F cond) (ev G.F el) p ρ0) (xs.drop (i + 1)) z=some (.ok rest z2)/\ys=yd++rest):=λ{za Ha} xa sta ea=>by
   refine j50 (rel'.mono xa) sta ea (λc z1 h=>by cases h) λm z4 e4=>?_
   obtain⟨d,p1,e5⟩:=M.a30 e4;obtain⟨s1,rfl,q1⟩:=f70 p1;cases e5;refine⟨s1,rfl,λw H4 x4 st4 rv=>⟨by rw[À5];simp;omega,yd++[d],z3,l,(x'.trans xa).trans x4,st4,?_,f2,by rw[ey,f3,Õ9];rfl⟩⟩
   exact(hd.same (a10.trans (h50 sm) (a10.trans xa.same x4.same))).append (.cons (rv.pl.d_ q1) .nil)
  rcases hc with rfl | ⟨c,rfl⟩
  ·have f5:M.bind (ev G.F el ρ') (λy=>M.bind (M.of (pl y)) λy=>M.ret (some y)) z=some (.ok o z3):=f4;have ty:ttC X.K G .nil=c51:=rfl;rw[ty];refine z91 ?_;dsimp only;rw[if_pos rfl];exact yes Ext.refl st' f5
  ·rcases M.bind_some (show M.bind (ev G.F (.cons c .nil) ρ') _ z=_ from f4) with ⟨m,za,e1,e2⟩ | ⟨q,za,e1,e2⟩
   ·rcases M.bind_some (show M.bind (ev G.F c ρ') _ z=_ from e1) with ⟨m',zb,e3,e4⟩ | ⟨q,zb,e3,e4⟩
    ·obtain⟨s,hs,e5⟩:=M.a30 e4;cases e5;have hm':=A40 hs;subst hm';show tT X.K G EF c σ' H' _;have tb:∃ b,s=.d (.bl b):=by
      cases s with
      |d y=>cases y with
       |bl b=>exact⟨b,rfl⟩|_=>cases e2
      |_=>cases e2
     obtain⟨b,rfl⟩:=tb;refine⟨zA,ρ',z,_,rel',st',e3,b,rfl,λHa xa sta=>?_⟩;cases b with
     |true =>
      rw[if_pos rfl];exact yes xa sta e2
     |false =>
      rw[if_neg Ò];cases e2;exact⟨Ô hv (le_succ _),yd,z3,l,x'.trans xa,sta,hd.same (a10.trans (h50 sm) xa),f2,by rw[ey,f3]⟩
    ·cases e4
   ·cases e2
 ·have hi':i=xs.length:=by omega
  subst hi';rw[drop_length] at et;cases et;refine .inl ⟨IT.stop H x,λl hl=>fin H vs l x st (by rw[ey,append_nil];exact hd) hl⟩
end
theorem h00{env:Æ1}{k0:É2}(hk:k0≠.free):∀ {names:List (Str × É2)}{x:Str},names.lookup x=some k0 ->
  (names.map λ(n,k)=>if (k == ñ&&env.scope.kind == .function&&env.kindOf n == some .cell) then(n,Ä4) else(n,k)).lookup x=some k0
 |[],_,h=>by simp at h
 |(n,k)::r,x,h=>by
  have ih:=@h00 env k0 hk r x;show Ê8 x ((if (k == ñ&&env.scope.kind == .function&&env.kindOf n == some .cell)=true then(n,Ä4) else(n,k))::_)=_;cases hx:x == n with
  |true =>
   simp only[ÿ,hx] at h;cases h;have:(k0 == ñ)=false:=by simpa using hk
   rw[this,É5,É5,if_neg Ò];simp only[ÿ,hx]
  |false =>
   simp only[ÿ,hx] at h;by_cases hq:(k == ñ&&env.scope.kind == .function&&env.kindOf n == some .cell)=true
   ·rw[if_pos hq];simp only[ÿ,hx];exact ih h
   ·rw[if_neg hq];simp only[ÿ,hx];exact ih h
section
variable {lm:Bool}{X:Cx}{G:Gs}{E:XK}{N:List Str}{sc csc:À3}{on:List Str}{cs:List (Str × Nat)}
structure R41(csc sc:Scope)(N on:List Str)(cs:List (Str × Nat)):Prop where
 kind:csc.kind=.function
 nocell:∀ y∈csc.names,y.2≠.cell
 locs:∀ y∈csc.names,y.2=.local->csc.names.lookup y.1=some .local
 frees:∀ y∈csc.names,y.2=.free->(sc.names.lookup y.1=some .cell∨sc.names.lookup y.1=some .free)
 captd:∀ p∈cs,N[p.2]?=some p.1/\csc.names.lookup p.1=some .free
 own:∀ x∈on,csc.names.lookup x=some .local
 nd:(on++cs.map (·.1)).Nodup
theorem R51(h:D60 csc sc N on cs=true):R41 csc sc N on cs:=by
 unfold D60 at h;simp only[Á] at h;obtain⟨⟨⟨⟨⟨⟨h1,h2⟩,h3⟩,h4⟩,h5⟩,h6⟩,h7⟩:=h;rw[Á5] at h2 h3 h4 h5 h6;refine⟨by simpa using h1,λy hy=>by simpa using h2 y hy,λy hy hl=>?_,λy hy hf=>?_,λp hp=>by simpa using h5 p hp,λx hx=>by simpa using h6 x hx,of_decide_eq_true h7⟩
 ·have:=h3 y hy;rw[hl] at this;simpa using this
 ·have:=h4 y hy;rw[hf] at this;simpa using this
theorem T30(x:XI lm X G E N sc)(c:R41 csc sc N on cs):z20 X csc on cs:=⟨c.kind,c.nocell,c.locs,λy hy hf=>x.cel _ (c.frees y hy hf),λp hp=>by rw[x.hN];exact c.captd p hp⟩
theorem I10(x:XI lm X G E N sc)(c:R41 csc sc N on cs)(cl:List (Str × Æ))(C:Æ)(s:Å)(H:Hp)(fp:List Æ):XI false (c30 X (d30 on cs) csc cl C s H fp) G EF (on++cs.map (·.1)) csc where
 gok:=x.gok
 num:=x.num
 blt:=x.blt
 hN:=rfl
 nd:=c.nd
 vis:=λy hy=>by
  rcases À2.mp hy with h | h
  ·exact .inl (h00 (-0) (c.own y h))
  ·obtain⟨p,hp,rfl⟩:=Ð.mp h;rcases n50 (env:=X.env) (c.captd p hp).2 with h | h
   ·exact .inr (.inl h)
   ·exact .inr (.inr h)
 glb:=λy hy=>h00 (-0) hy
 cel:=λy hy=>by
  rcases hy with h | h
  ·exact .inl (h00 (-0) h)
  ·exact n50 (env:=X.env) h
 calm:=x.calm
 room:=x.room
 pas:=a72
theorem I20(x:XI lm X G E N sc)(c:R41 csc sc N on cs)(cl:List (Str × Æ))(C:Æ)(s:Å)(H:Hp)(fp:List Æ):B81 (c30 X (d30 on cs) csc cl C s H fp) (on++cs.map (·.1)) (λy=>on.contains y) where
 hN:=rfl
 nd:=c.nd
 lc:=λy hy=>.inl (h00 (-0) (c.own y (by simpa using hy)))
 fn:=λy hy=>.inr (h00 (-0) (c.own y (by simpa using hy)))
 calm:=x.calm
theorem Y10:∀ {capt:List Nat},(e00 N capt).length=capt.length->(e00 N capt).map (·.2)=capt
 |[],_=>rfl
 |i::r,h=>by
  have le:∀ l:List Nat,(e00 N l).length<=l.length:=by
   intro l
   induction l with
   |nil=>exact É _
   |cons j q ih =>
    unfold e00;split
    ·rw[ß,ß];omega
    ·rw[ß];omega
  unfold e00 at h ⊢;split at h
  ·rename_i y hy;rw[ß,ß] at h;rw[Ã5,Y10 ∅]
  ·have:=le r;rw[ß] at h;omega
theorem C11(rel:x90 X.K zA H ρ σ)(h:cs.map (·.2)=capt):x90 X.K zA H (ë on.length none++capt.map λi=>(ρ[i]?).getD none) (p70 on cs σ) /\
  (ë on.length (none:Option S)++capt.map λi=>(ρ[i]?).getD none).length=(p70 on cs σ).length:=by
 subst h;constructor
 ·intro j s e;unfold p70;by_cases hj:j < on.length
  ·rw[Í4 (by simpa using hj)] at e
   simp[Î8,hj] at e
  ·rw[Ä0 (by simpa using hj),Þ6,Þ,Þ] at e
   rw[Ä0 (by simpa using hj),È,Þ]
   cases hp:cs[j - on.length]? with
   |none=>rw[hp] at e;simp at e
   |some p =>
    rw[hp] at e;simp only[map_some,Ñ3] at e;have e2:ρ[p.2]?=some (some s):=by
     cases hr:ρ[p.2]? with
     |none=>rw[hr] at e;cases e
     |some o=>rw[hr] at e;exact congrArg some e
    obtain⟨v,h1,h2⟩:=rel p.2 s e2;exact⟨v,by simp[h1],h2⟩
 ·unfold p70;simp
theorem T40(h:s40 e=true)(env:Æ1)(x:Ä):Ç8 e env x=pure x:=by
 cases e with
 |Set _ _ _=>cases h
 |_=>rfl
def D90(X:Cx)(G:Gs)(E:XK)(x:Ex)(elt tg iter:Î)(ifs:List Î)(csc:À3):Prop:=∃ (own:List Str) (capt:List (Str × Nat)) (wi:TI) (g:TG) (tt:TT) (te:TE),z20 X csc own capt/\PI X tg iter wi /\
 (∀ cl C s H fp,PG (c30 X (d30 own capt) csc cl C s H fp) tg g)/\(∀ cl C s H fp,PTs (c30 X (d30 own capt) csc cl C s H fp) ifs tt)/\(∀ cl C s H fp,PE (c30 X (d30 own capt) csc cl C s H fp) elt te) /\
 (∀ x,Ç8 iter X.env x=pure x)/\∀ σ H Q,tI X.K G E x σ H Q->L61 own capt wi g tt te σ H Q
theorem t62(x:XI lm X G E N sc){p:Pat}{it:It}{src cond el:Ex}{capt:List Nat}{elt tg iter:Î}{ifs:List Î}(c:R41 csc sc N on cs)(hcap:cs.map (·.2)=capt)(hp:g70 (on++cs.map (·.1)) (λy=>on.contains y) p tg=true)
  (hi:PI X tg iter (tIt X.K G E it src)) (hns:s40 iter=true) (hc:(cond=.nil/\ifs=[])∨∃ q f,cond=.cons q .nil/\ifs=[f]/\∀ cl C s H fp,PT (c30 X (d30 on cs) csc cl C s H fp) f (tT X.K G EF q))
  (he:∀ cl C s H fp,PE (c30 X (d30 on cs) csc cl C s H fp) elt (tI X.K G EF el)):D90 X G E (.comp on.length capt p it src cond el) elt tg iter ifs csc:=by
 have ht:∀ cl C s H fp,PTs (c30 X (d30 on cs) csc cl C s H fp) ifs (ttC X.K G cond):=by
  rcases hc with ⟨rfl,rfl⟩ | ⟨q,f,rfl,rfl,h⟩
  ·exact λcl C s H fp=>i71
  ·exact λcl C s H fp=>L41 (h cl C s H fp)
 refine⟨on,cs,tIt X.K G E it src,gP X.K p,ttC X.K G cond,tI X.K G EF el,T30 x c,hi,λcl C s H fp=>e51 (I20 x c cl C s H fp) hp,ht,he,T40 hns X.env,λσ H Q q=>?_⟩;obtain⟨zA,ρ,z,rr,rel,st,e,po⟩:=q;have e0:M.bind (ev G.F src ρ) (λl=>M.bind (M.of ((plA l).bind (itD it))) λxs=>if xs.length<=most then M.bind (M.calm (turns (o50 (ev G.F cond) (ev G.F el) p (ë on.length none++capt.map λi=>(ρ[i]?).getD none)) xs)) λys=>M.ret [.fr ys] else M.no) z=some rr:=e;rcases M.bind_some e0 with ⟨m,z1,e1,e2⟩ | ⟨k,z1,e1,e2⟩
 ·obtain⟨xs,hx,e3⟩:=M.a30 e2;refine⟨zA,ρ,z,_,rel,st,e1,xs,hx,λJ H1 x1 st1 IT'=>?_⟩;have IT:=IT'.ok;split at e3
  ·rename_i hm;rcases M.bind_some e3 with ⟨ys,z2,e4,e5⟩ | ⟨k,z2,e4,e5⟩
   ·cases e5;have e6:turns (o50 (ev G.F cond) (ev G.F el) p (ë on.length none++capt.map λi=>(ρ[i]?).getD none)) xs z1=some (.ok ys z2):=by
     unfold M.calm at e4;split at e4
     ·rename_i h;cases e4;exact h
     ·cases e4
    obtain⟨r1,r2⟩:=C11 (on:=on) (rel.mono x1) hcap;refine R31 IT hm r1 r2 st1 (by rcases hc with ⟨h,_⟩ | ⟨q,_,h,_⟩;exact .inl h;exact .inr ⟨q,h⟩) e6 λH2 vs l x2 st2 hd hl=>?_
    exact e10 po (x1.trans x2) st2 _ _ (a10.new _ hl) (p00 st2 hd hl)
   ·unfold M.calm at e4;split at e4 <;> cases e4
  ·cases e3
 ·exact⟨zA,ρ,z,_,rel,st,e1,(e90 po) k z1 e2⟩
theorem D90.good(hc:X.calm=true)(h:D90 X G E x elt tg iter ifs csc):a70 X G E x (.ListComp elt [⟨tg,iter,ifs,0⟩] csc pos):=by
 obtain⟨own,capt,wi,g,tt,te,h1,h2,h3,h4,h5,h6,h7⟩:=h;exact a90 (PE.imp (i81 hc h1 h2 h3 h4 h5 h6) h7) rfl
theorem b40(h:(!isL x)=true):isL x=false:=by simpa using h
theorem p21(hL:isL x=true)(g:Good X G E x [e]):∃ a,x=.cons a .nil/\a70 X G E a e:=by
 cases x with
 |nil=>cases (show [e]=[] from g)
 |cons a r =>
  obtain⟨e',es,h,ns,ga,lr,gr⟩:=g;cases h;cases r with
  |nil=>exact⟨a,rfl,ga⟩|cons b q=>obtain⟨e,es,h,_⟩:=gr;cases h
  |_=>cases lr
 |_=>cases hL
theorem O00{lm:Bool}{G:Gs}{own:Nat}{capt:List Nat}{p:Pat}{it:It}{src cond el:Ex}(ihs:(∀ {X:Cx}{E:XK}{N:List Str}{sc:À3},XI lm X G E N sc->∀ {es:List Î},mt lm G.fns G.nums src sc N es=true->Good X G E src es))(ihc:(∀ {X:Cx}{E:XK}{N:List Str}{sc:À3},XI false X G E N sc->∀ {es:List Î},mt false G.fns G.nums cond sc N es=true->Good X G E cond es))(ihe:(∀ {X:Cx}{E:XK}{N:List Str}{sc:À3},XI false X G E N sc->∀ {es:List Î},mt false G.fns G.nums el sc N es=true->Good X G E el es))
  {X:Cx}{E:XK}{N:List Str}{sc:À3} (x:XI lm X G E N sc) {elt tg iter:Î}{ifs:List Î}{csc:À3} (h:(d20 tg).length == own&&(e00 N capt).length == capt.length&&D60 csc sc N (d20 tg) (e00 N capt)&&g70 (d20 tg++(e00 N capt).map (·.1)) (λx=>(d20 tg).contains x) p tg&&isL src&&!isL el&&isL cond&&ifs.length<=1&&noStar elt&&s40 iter&&ifs.all (λc=>!ifB c) &&
    (match it with
    |.seq=>mt lm G.fns G.nums src sc N [iter]|.rng1=>opt (V91 iter) λr=>r.1.1 == ("range":Str)&&glob sc r.1.1&&mt lm G.fns G.nums src sc N [r.1.2.2.1]|.rng2=>opt (W01 iter) λr=>r.1.1 == ("range":Str)&&glob sc r.1.1&&mt lm G.fns G.nums src sc N [r.1.2.2.1,r.1.2.2.2.1]|.zip=>opt (W01 iter) λr=>r.1.1 == ("zip":Str)&&glob sc r.1.1&&k20 tg&&mt lm G.fns G.nums src sc N [r.1.2.2.1,r.1.2.2.2.1]
    |.enum=>opt (V91 iter) λr=>r.1.1 == ("enumerate":Str)&&glob sc r.1.1&&k20 tg&&mt lm G.fns G.nums src sc N [r.1.2.2.1])&&mt false G.fns G.nums cond csc (d20 tg++(e00 N capt).map (·.1)) ifs&&mt false G.fns G.nums el csc (d20 tg++(e00 N capt).map (·.1)) [elt]):D90 X G E (.comp own capt p it src cond el) elt tg iter ifs csc:=by
 simp only[Á,beq_iff_eq,decide_eq_true_eq] at h;obtain⟨⟨⟨⟨⟨⟨⟨⟨⟨⟨⟨⟨⟨h1,h2⟩,h3⟩,h4⟩,h5⟩,h6⟩,h7⟩,h8⟩,h9⟩,h10⟩,h11⟩,h12⟩,h13⟩,h14⟩:=h;subst h1;have c:=R51 h3;have hi:PI X tg iter (tIt X.K G E it src):=by
  cases it with
  |seq =>
   obtain⟨a,rfl,ga⟩:=p21 h5 (ihs x h12);exact I51 ga
  |rng1 =>
   obtain⟨⟨⟨n,_,a,_⟩,rfl⟩,-,h12⟩:=a50 h12;simp only[Á,beq_iff_eq] at h12;exact o71 x h12.1.1 h12.1.2 h5 (ihs x h12.2)
  |rng2 =>
   obtain⟨⟨⟨n,_,a,b,_⟩,rfl⟩,-,h12⟩:=a50 h12;simp only[Á,beq_iff_eq] at h12;exact o81 x h12.1.1 h12.1.2 h5 (ihs x h12.2)
  |zip =>
   obtain⟨⟨⟨n,_,a,b,_⟩,rfl⟩,-,h12⟩:=a50 h12;simp only[Á,beq_iff_eq] at h12;exact p11 x h12.1.2 h12.1.1.1 h12.1.1.2 h5 (ihs x h12.2)
  |enum =>
   obtain⟨⟨⟨n,_,a,_⟩,rfl⟩,-,h12⟩:=a50 h12;simp only[Á,beq_iff_eq] at h12;exact I00 x h12.1.2 h12.1.1.1 h12.1.1.2 h5 (ihs x h12.2)
 have hc:(cond=.nil/\ifs=[])∨∃ q f,cond=.cons q .nil/\ifs=[f]/\∀ cl C s H fp,PT (c30 X (d30 (d20 tg) (e00 N capt)) csc cl C s H fp) f (tT X.K G EF q):=by
  match ifs,h8,h11,h13 with
  |[],_,_,h13 =>
   cases cond with
   |nil=>exact .inl ⟨rfl,rfl⟩|cons a r=>cases h13
   |_=>cases h7
  |[f],_,h11,h13 =>
   cases cond with
   |nil=>cases h13
   |cons a r =>
    have h13':(noStar f&&!isL a&&isL r&&mt false G.fns G.nums a csc (d20 tg++(e00 N capt).map (·.1)) [f]&&mt false G.fns G.nums r csc (d20 tg++(e00 N capt).map (·.1)) [])=true:=h13;simp only[Á] at h13';have rn:r=.nil:=by
     cases r with
     |nil=>rfl|cons b q=>cases h13'.2
     |_=>cases h13'.1.1.2
    subst rn;simp only[Ä3,List.all_nil,Ý5] at h11;refine .inr ⟨a,f,rfl,rfl,λcl C s H fp=>?_⟩;obtain⟨e',es,he,ns,ga,lr,gr⟩:=ihc (I10 x c cl C s H fp) h13;cases he;exact ga.pt (Q71 h11)
   |_=>cases h7
 refine t62 x c (Y10 h2) h4 hi h10 hc λcl C s H fp=>?_;exact(a80 (b40 h6) (ihe (I10 x c cl C s H fp) h14)).pe
theorem A60{K:Â}{H H1:Hp}(sm:a10 H H1):∀ {l:List D}{ys:List V}{kss:List (List Int)},HdA K H l ys->m11 l=some kss->Á7 (λy ks=>∃ b,y=V.ref b/\SqT K H1 b (ks.map V.int)) ys kss
 |[],_,_,h,e=>by rw[h.e50];cases e;exact .nil
 |d::l,_,_,h,e=>by
  obtain⟨v,r,rfl,h1,h2⟩:=h.b90;obtain⟨k,e1,e2⟩:=Ï.mp (show(V61 d).bind _=_ from e);obtain⟨q,e3,rfl⟩:=Ê.mp e2;refine .cons ?_ (A60 sm h2 e3);cases d with
  |tup t =>
   obtain⟨b,xs,rfl,k1,k2⟩:=h1.t90;obtain⟨rfl,_⟩:=u50 (show j40 t=some k from e1) k2;exact⟨b,rfl,sm.sqT k1⟩
  |_=>cases e1
theorem t72{K:Â}{zA:Option Æ}{z:Z}{H:Hp}{d:Æ}{kss:List (List Int)}(st:d70 zA z H)(hd:zA≠some d)(h:Q00 K H d kss):Q00 K (hz zA H) d kss:=by
 obtain⟨xs,h1,h2,h3,h4⟩:=h;exact⟨xs,c40 h1 hd,h2,λx hx=>st.v91 (h3 x hx),h4⟩
theorem t82{n:Str}(h:b50 n=true):(n == ("__debug__":Str))=false:=by
 unfold b50 at h;simp only[Á,ú] at h;exact h.1
theorem R61(x:XI lm X G E N sc){a:Ex}{n:Str}{p1 p2 px ps:Pos}{k:Nat}{iter:Î}(c:R41 csc sc N [n] [])(hd:b50 n=true)(hns:s40 iter=true)(ga:a70 X G E a iter):a70 X G E (.dkeys a) (.DictComp (.Name n p1) (.Constant (.bool true) k p2) [⟨.Name n px,iter,[],0⟩] csc ps):=by
 refine a90 (PE.imp (A11 x.calm (Nat.lt_of_succ_lt (L31 x.room)) (T30 x c) (c.own n Ë) (t82 hd) ga.pe (T40 hns X.env)) λσ H Q q=>?_) rfl;obtain⟨zA,ρ,z,rr,rel,st,e,po⟩:=q;refine j50 rel st e (e90 po) λm z1 e1=>?_;obtain⟨kss,g1,e2⟩:=M.a30 e1;obtain⟨d,h1,h2⟩:=Ï.mp g1;obtain⟨s1,rfl,q1⟩:=f70 h1;cases e2;refine⟨s1,rfl,λv H1 x1 st1 rv=>?_⟩;cases d with
 |lst l =>
  obtain⟨b,ys,rfl,k1,k2⟩:=(rv.pl.d_ q1).N30;exact⟨b,ys,kss,rfl,(k1.same (a00 zA H1)).sq,A60 (a00 zA H1) k2 h2,λd H2 sm hn ok=>e10 po x1 st1 _ _ sm ⟨d,rfl,t72 (st1.same sm) (st1.D40 hn) ok⟩⟩
 |_=>cases h2
theorem f52(o:Bool)(x:XI lm X G E N sc){a:Ex}{i:Nat}{e:Î}{n:Str}{p pos:Pos}(h1:N[i]?=some n)(h2:b50 n=true)(ga:a70 X G E a e):a70 X G E (.memk o a i) (.Compare e [k82 o] [.Name n p] pos):=by
 have h2':=h2;unfold b50 at h2';simp only[Á,ú] at h2';have pv:=l60 (X:=X) (i:=i) (pos:=p) (by rw[x.hN];exact h1) (x.vis n (ê h1)) h2'.1 h2'.2
 suffices key:∀ σ H Q,tI X.K G E (.memk o a i) σ H Q->tOp (a82 X.K o) (tI X.K G E a) (G11 i) σ H Q by
  refine⟨PE.imp (g81 (l01 o (L31 x.room)) ga.pe pv rfl) key,λ_=>PT.imp (g91 (l01 o (L31 x.room)) ga.pe pv rfl) λσ H Q q=>?_,λop vs p h=>by cases h⟩
  obtain⟨zA,ρ,z,rr,rel,st,e,po⟩:=q;exact key σ H _ ⟨zA,ρ,z,rr,rel,st,e,n71 po⟩
 intro σ H Q q;obtain⟨zA,ρ,z,rr,rel,st,e,po⟩:=q;refine j50 rel st e (e90 po) λm z1 e1=>?_;obtain⟨k,g1,e2⟩:=M.a30 e1;obtain⟨d,h3,h4⟩:=Ï.mp g1;obtain⟨s1,rfl,q1⟩:=f70 h3;obtain⟨kss,g2,e3⟩:=M.a30 e2;cases e3;refine⟨s1,rfl,λv H1 x1 st1 rv=>?_⟩;have hr:ρ[i]?=some (some (.ks kss)):=by
  unfold q02 at g2;split at g2
  ·cases g2;assumption
  ·cases g2
 obtain⟨w,w1,w2⟩:=(rel.mono x1) i _ hr;obtain⟨b,rfl,ok⟩:=w2;cases d with
 |tup t =>
  obtain⟨c,xs,rfl,k1,k2⟩:=(rv.pl.d_ q1).t90;obtain⟨rfl,_⟩:=u50 (show j40 t=some k from h4) k2;have ok':Q00 X.K H1 b kss:=ok.same (a00 zA H1);refine⟨_,w1,c,k,b,kss,rfl,rfl,(a00 zA H1).sqT k1,ok',?_⟩;have eq:kss.contains k=decide (k∈kss):=by rw[Å0];simp
  have:=e10 po x1 st1 _ _ (a10.refl H1) (f80 (b:=kss.contains k == o));rw[eq] at this;exact this
 |_=>cases h4
theorem f62:∀ (t:Ex) {lm:Bool}{G:Gs}{X:Cx}{E:XK}{N:List Str}{sc:À3},XI lm X G E N sc->∀ {es:List Î},mt lm G.fns G.nums t sc N es=true->Good X G E t es:=by
 intro t
 induction t with
 |nil =>
  intro lm G X E N sc x es h;exact Ç9.mp h
 |cons a r iha ihr =>
  intro lm G X E N sc x es h;cases es with
  |nil=>cases h
  |cons e es =>
   have h:(noStar e&&!isL a&&isL r&&mt lm G.fns G.nums a sc N [e]&&mt lm G.fns G.nums r sc N es)=true:=h;simp only[Á] at h;obtain⟨⟨⟨⟨h1,h2⟩,h3⟩,h4⟩,h5⟩:=h;exact⟨e,es,rfl,h1,a80 (b40 h2) (iha x h4),h3,ihr x h5⟩
 |var i =>
  intro lm G X E N sc x es h;obtain⟨⟨q,rfl⟩,-,h⟩:=a50 h;simp only[Á,beq_iff_eq] at h;exact b80 rfl (r92 x h.1 h.2)
 |con d =>
  intro lm G X E N sc x es h;rcases (Å5 _ _).mp h with h | h
  ·obtain⟨⟨q,rfl⟩,-,h⟩:=a50 h;exact b80 rfl (s02 h)
  ·obtain⟨⟨p,rfl⟩,-,h⟩:=a50 h;cases d with
   |dct=>exact b80 rfl s12|_=>cases h
 |gint g i =>
  intro lm G X E N sc x es h;obtain⟨⟨⟨n,p⟩,rfl⟩,-,h⟩:=a50 h;simp only[Á,beq_iff_eq,Ã9] at h;obtain⟨⟨rfl,h2⟩,h3⟩:=h;exact b80 rfl (d62 x h2 h3)
 |tup as ih =>
  intro lm G X E N sc x es h;obtain⟨⟨q,rfl⟩,-,h⟩:=a50 h;simp only[Á] at h;exact b80 rfl (s22 h.1 (ih x h.2))
 |lst as ih =>
  intro lm G X E N sc x es h;obtain⟨⟨q,rfl⟩,-,h⟩:=a50 h;simp only[Á] at h;exact b80 rfl (s32 h.1 (ih x h.2))
 |bin o a b iha ihb =>
  intro lm G X E N sc x es h;obtain⟨⟨⟨l,op,r,p⟩,rfl⟩,-,h⟩:=a50 h;simp only[Á,beq_iff_eq] at h;obtain⟨⟨⟨⟨rfl,h2⟩,h3⟩,h4⟩,h5⟩:=h;exact b80 rfl (s42 (a80 (b40 h2) (iha x h4)) (a80 (b40 h3) (ihb x h5)))
 |cmp o a b iha ihb =>
  intro lm G X E N sc x es h;obtain⟨⟨⟨l,op,r,p⟩,rfl⟩,-,h⟩:=a50 h;simp only[Á,beq_iff_eq] at h;obtain⟨⟨⟨⟨⟨rfl,h1⟩,h2⟩,h3⟩,h4⟩,h5⟩:=h;exact b80 rfl (s52 x h1 (a80 (b40 h2) (iha x h4)) (a80 (b40 h3) (ihb x h5)))
 |neg a ih =>
  intro lm G X E N sc x es h;obtain⟨⟨q,rfl⟩,-,h⟩:=a50 h;simp only[Á] at h;exact b80 rfl (s62 (a80 (b40 h.1) (ih x h.2)))
 |not a ih =>
  intro lm G X E N sc x es h;obtain⟨⟨q,rfl⟩,-,h⟩:=a50 h;simp only[Á] at h;obtain⟨⟨h1,h2⟩,h3⟩:=h;exact b80 rfl (s72 (a80 (b40 h1) (ih x h3)) (Q71 h2))
 |and a b iha ihb =>
  intro lm G X E N sc x es h;obtain⟨⟨⟨l,r,vs,p⟩,rfl⟩,-,h⟩:=a50 h;simp only[Á] at h;obtain⟨⟨⟨⟨h1,h2⟩,h3⟩,h4⟩,h5⟩:=h;refine b80 rfl (s82 (a80 (b40 h1) (iha x h4)) (Q71 h3) ?_);cases vs with
  |nil =>
   rw[if_pos (show([]:List Î).isEmpty=true from rfl),Á] at h5;exact d72 (a80 (b40 h2) (ihb x h5.2)) (Q71 h5.1)
  |cons v vs =>
   rw[if_neg (by exact Ò)] at h5
   exact a80 (b40 h2) (ihb x h5)
 |or a b iha ihb =>
  intro lm G X E N sc x es h;obtain⟨⟨⟨l,r,vs,p⟩,rfl⟩,-,h⟩:=a50 h;simp only[Á] at h;obtain⟨⟨⟨⟨h1,h2⟩,h3⟩,h4⟩,h5⟩:=h;refine b80 rfl (F82 (a80 (b40 h1) (iha x h4)) (Q71 h3) ?_);cases vs with
  |nil =>
   rw[if_pos (show([]:List Î).isEmpty=true from rfl),Á] at h5;exact d72 (a80 (b40 h2) (ihb x h5.2)) (Q71 h5.1)
  |cons v vs =>
   rw[if_neg (by exact Ò)] at h5
   exact a80 (b40 h2) (ihb x h5)
 |orT a b iha ihb =>
  intro lm G X E N sc x es h;obtain⟨⟨⟨l,r,vs,p⟩,rfl⟩,-,h⟩:=a50 h;simp only[Á] at h;obtain⟨⟨⟨⟨h1,h2⟩,h3⟩,h4⟩,h5⟩:=h;cases vs with
  |nil=>exact b80 rfl (s92 (a80 (b40 h1) (iha x h4)) (a80 (b40 h2) (ihb x h5)))|cons v vs=>cases h3
 |ite c a b ihc iha ihb =>
  intro lm G X E N sc x es h;obtain⟨⟨q,rfl⟩,-,h⟩:=a50 h;simp only[Á] at h;obtain⟨⟨⟨⟨⟨⟨h1,h2⟩,h3⟩,h4⟩,h5⟩,h6⟩,h7⟩:=h;exact b80 rfl (t02 (a80 (b40 h1) (ihc x h5)) (Q71 h4) (a80 (b40 h2) (iha x h6)) (a80 (b40 h3) (ihb x h7)))
 |ch o o' a b c iha ihb ihc =>
  intro lm G X E N sc x es h;obtain⟨⟨⟨l,op,op',r,s,p⟩,rfl⟩,-,h⟩:=a50 h;simp only[Á,beq_iff_eq] at h;obtain⟨⟨⟨⟨⟨⟨⟨⟨rfl,rfl⟩,h1⟩,h2⟩,h3⟩,h4⟩,h5⟩,h6⟩,h7⟩:=h;exact b80 rfl (F92 x h1 (a80 (b40 h2) (iha x h5)) (a80 (b40 h3) (ihb x h6)) (a80 (b40 h4) (ihc x h7)))
 |bf f as ih =>
  intro lm G X E N sc x es h;obtain⟨⟨q,rfl⟩,-,h⟩:=a50 h;simp only[Á,beq_iff_eq] at h;obtain⟨⟨⟨⟨h1,h2⟩,h3⟩,h4⟩,h5⟩:=h;exact b80 rfl (G02 x h1 h2 h3 h4 (ih x h5))
 |isi t a ih =>
  intro lm G X E N sc x es h;obtain⟨⟨⟨n,q,e,ty,p⟩,rfl⟩,-,h⟩:=a50 h;simp only[Á,beq_iff_eq] at h;obtain⟨⟨⟨⟨⟨h1,h2⟩,h3⟩,h4⟩,h5⟩,h6⟩:=h;have g:=a80 (b40 h4) (ih x h5);refine b80 rfl ?_;have one:∀ t:Ty,t≠.seq->(opt (shN ty) λq=>q.1.1 == ç (tyN t)&&glob sc (ç (tyN t)))=true->a70 X G E (.isi t a) (.Call (.Name n q) [e,ty] [] p):=λt hs h6=>by
   obtain⟨⟨⟨a,_⟩,rfl⟩,-,h6⟩:=a50 h6;simp only[Á,beq_iff_eq] at h6;obtain⟨rfl,k1⟩:=h6;exact e72 x hs k1 h1 h2 h3 g
  cases t with
  |seq =>
   obtain⟨⟨⟨a,_,b,_,_,_⟩,rfl⟩,-,h6⟩:=a50 h6;simp only[Á,beq_iff_eq] at h6;obtain⟨⟨⟨rfl,rfl⟩,k1⟩,k2⟩:=h6;exact e82 x k1 k2 h1 h2 h3 g
  |_=>exact one _ (λh=>by cases h) h6
 |idx a i iha ihi =>
  intro lm G X E N sc x es h;obtain⟨⟨q,rfl⟩,-,h⟩:=a50 h;simp only[Á] at h;obtain⟨⟨⟨⟨h1,h2⟩,h3⟩,h4⟩,h5⟩:=h;exact b80 rfl (t22 h1 (a80 (b40 h2) (iha x h4)) (a80 (b40 h3) (ihi x h5)))
 |sl a lo hi iha ihl ihh =>
  intro lm G X E N sc x es h;obtain⟨⟨q,rfl⟩,-,h⟩:=a50 h;simp only[Á] at h;obtain⟨⟨⟨⟨⟨h1,h2⟩,h3⟩,h4⟩,h5⟩,h6⟩:=h;exact b80 rfl (G12 (a80 (b40 h1) (iha x h4)) h2 h3 (ihl x h5) (ihh x h6))
 |call f as ih =>
  intro lm G X E N sc x es h;obtain⟨⟨⟨n,q,e,l,p⟩,rfl⟩,-,h⟩:=a50 h;simp only[Á] at h;obtain⟨⟨⟨h1,h2⟩,h3⟩,h4⟩:=h;obtain⟨pr,hf,h1'⟩:=a50 h1;simp only[Á,beq_iff_eq] at h1';obtain⟨rfl,h7⟩:=h1';exact b80 rfl (s_call x hf h7 h2 h3 (ih x h4))
 |comp own capt p it src cond el ihs ihc ihe =>
  intro lm G X E N sc x es h;obtain⟨⟨q,rfl⟩,-,h⟩:=a50 h;exact b80 rfl ((O00 ihs ihc ihe x h).good x.calm)
 |lrng b as ih =>
  intro lm G X E N sc x es h;obtain⟨⟨⟨n,p,m,q,a,r,t⟩,rfl⟩,-,h⟩:=a50 h;simp only[Á,beq_iff_eq] at h;obtain⟨⟨⟨⟨⟨⟨h1,h2⟩,h3⟩,h4⟩,h5⟩,h7⟩,h6⟩:=h;subst h1;subst h2;cases a with
  |nil=>simp at h7|cons a l=>exact b80 rfl (f12 x h3 h4 h5 (ih x h6))
 |dkeys a ih =>
  intro lm G X E N sc x es h;obtain⟨⟨q,rfl⟩,-,h⟩:=a50 h;simp only[Á] at h;obtain⟨⟨⟨⟨h1,h2⟩,h3⟩,h4⟩,h5⟩:=h;exact b80 rfl (R61 x (R51 h1) h2 h3 (a80 (b40 h4) (ih x h5)))
 |memk o a i ih =>
  intro lm G X E N sc x es h;obtain⟨⟨q,rfl⟩,-,h⟩:=a50 h;simp only[Á,beq_iff_eq] at h;obtain⟨⟨⟨h1,h2⟩,h3⟩,h4⟩:=h;exact b80 rfl (f52 o x h1 h2 (a80 (b40 h3) (ih x h4)))
 |zget i k =>
  intro lm G X E N sc x es h;obtain⟨⟨⟨n,p,j,c,q,r⟩,rfl⟩,-,h⟩:=a50 h;simp only[Á,beq_iff_eq] at h;obtain⟨⟨h1,h2⟩,h3⟩:=h;have h3:j=(k:Int):=h3;subst h3;exact b80 rfl (e92 x h1 h2)
theorem sound(G:Gs)(t:Ex)(x:XI lm X G E N sc)(h:mt lm G.fns G.nums t sc N es=true):Good X G E t es:=f62 t x h
end
open Classical in
def hw(ow:Nat->Option Æ)(H:Hp):Hp:=λb=>if ∃ i,ow i=some b then none else H b
section
variable {K:Â}{ow:Nat->Option Æ}{H H':Hp}
theorem g20:a10 (hw ow H) H:=λb o e=>by
 unfold hw at e;split at e
 ·cases e
 ·exact e
theorem g40(h:H b=some o)(n:∀ i,ow i≠some b):hw ow H b=some o:=by
 unfold hw;rw[if_neg (λ⟨i,e⟩=>n i e)];exact h
theorem A70(h:hw ow H b=some o):H b=some o/\∀ i,ow i≠some b:=by
 refine⟨g20 b o h,λi e=>?_⟩;unfold hw at h;rw[if_pos ⟨i,e⟩] at h;cases h
theorem d80(e:a10 H H'):a10 (hw ow H) (hw ow H'):=λb o h=>by
 obtain⟨h1,h2⟩:=A70 h;exact g40 (e b o h1) h2
theorem m60:hw (λ_=>none) H=H:=by
 funext b
 unfold hw;rw[if_neg (λ⟨i,e⟩=>by cases e)]
theorem Y20(h:SqT K H a xs)(hl:∀ i b,ow i=some b->∃ ys,H b=some (.lst ys)):SqT K (hw ow H) a xs:=by
 rcases h with (h | ⟨o,h⟩) | h
 ·refine .inl (.inl (g40 h λi e=>?_));obtain⟨ys,q⟩:=hl i a e;rw[h] at q;cases q
 ·refine .inl (.inr ⟨o,g40 h λi e=>?_⟩);obtain⟨ys,q⟩:=hl i a e;rw[h] at q;cases q
 ·exact .inr h
mutual
theorem I30(hl:∀ i b,ow i=some b->∃ ys,H b=some (.lst ys)):∀ {d:D}{v:V},bare d=true->Hd K H d v->Hd K (hw ow H) d v
 |.non,_,_,h=>by rw[h.l02];exact Hd.non|.bl _,_,_,h=>by rw[h.bl_];exact Hd.bl|.int _,_,_,h=>by rw[h.i40];exact Hd.int|.str _,_,_,h=>by rw[h.q22];exact Hd.str
 |.tup l,_,b,h=>by
  obtain⟨a,xs,rfl,h1,h2⟩:=h.t90;exact Hd.tup (Y20 h1 hl) (y00 hl (by simpa [bare] using b) h2)
 |.lst _,_,b,_=>by cases b
 |.dct,_,b,_=>by cases b
theorem y00(hl:∀ i b,ow i=some b->∃ ys,H b=some (.lst ys)):∀ {ds:List D}{vs:List V},q10 ds=true->HdA K H ds vs->HdA K (hw ow H) ds vs
 |[],_,_,h=>by rw[h.e50];exact .nil
 |d::ds,_,b,h=>by
  obtain⟨x,r,rfl,h1,h2⟩:=h.b90;simp only[q10,Á] at b;exact .cons (I30 hl b.1 h1) (y00 hl b.2 h2)
end
theorem t92(hl:∀ i b,ow i=some b->∃ ys,H b=some (.lst ys)){d:Æ}{kss:List (List Int)}(h:Q00 K H d kss):Q00 K (hw ow H) d kss:=by
 obtain⟨xs,h1,h2,h3,h4⟩:=h;refine⟨xs,g40 h1 λi e=>?_,h2,λx hx=>Y20 (h3 x hx) hl,h4⟩;obtain⟨ys,q⟩:=hl i d e;rw[h1] at q;cases q
end
def RvW(K:Â)(zA:Option Æ)(ow:Nat->Option Æ)(H:Hp)(i:Nat):S->V->Prop
 |.d x,v=>ow i=none/\Hd K (hw ow (hz zA H)) x v|.fr xs,v=>∃ a ys,ow i=some a/\v=.ref a/\H a=some (.lst ys)/\HdA K (hw ow (hz zA H)) xs ys|.z,v=>ow i=none/\∃ a,zA=some a/\v=.ref a|.ks l,v=>ow i=none/\∃ d,v=.ref d/\Q00 K (hw ow (hz zA H)) d l
structure RW(K:PySem.W.Frag)(H0:Hp)(zE zA:Option Addr)(ow:Nat->Option Addr)(H:Hp)(ρ:Env)(σ:L2.St):Prop where
 len:ρ.length=σ.length
 inj:∀ i j a,ow i=some a->ow j=some a->i=j
 zne:∀ i a,ow i=some a->zA≠some a
 own:∀ i a,ow i=some a->∃ xs,ρ[i]?=some (some (.fr xs))
 wor:∀ i s,ρ[i]?=some (some s)->∃ v,σ[i]?=some (some v)/\RvW K zA ow H i s v
 ext:Ext zE H0 H
 zok:zA=zE∨(zE=none/\∀ a,zA=some a->H0 a=none)
 new:∀ i a,ow i=some a->H0 a=none
section
variable {K:Â}{H0 H H':Hp}{zE zA:Option Æ}{ow:Nat->Option Æ}{ρ:Env}{σ:L2.St}
theorem RW.lst(r:RW K H0 zE zA ow H ρ σ):∀ i a,ow i=some a->∃ ys,H a=some (.lst ys):=λi a e=>by
 obtain⟨xs,h⟩:=r.own i a e;obtain⟨v,h1,a',ys,h2,h3,h4,h5⟩:=r.wor i _ h;rw[e] at h2;cases h2;exact⟨ys,h4⟩
theorem RW.I61(r:RW K H0 zE zA ow H ρ σ):∀ i a,ow i=some a->∃ ys,hz zA H a=some (.lst ys):=λi a e=>by
 obtain⟨ys,h⟩:=r.lst i a e;exact⟨ys,c40 h (r.zne i a e)⟩
theorem RvW.pl{i:Nat}{s:S}{v:V}(h:RvW K zA ow H i s v)(hz':∀ a,ow i=some a->zA≠some a):RvP K zA H s v:=by
 cases s with
 |d x=>exact h.2.same g20|z=>exact h.2|ks l=>obtain⟨_,d,q,k⟩:=h;exact⟨d,q,k.same g20⟩
 |fr xs =>
  obtain⟨a,ys,h1,rfl,h3,h4⟩:=h;exact Hd.lst (c40 h3 (hz' a h1)) (h4.same g20)
theorem RW.Q30(r:RW K H0 zE zA ow H ρ σ):x90 K zA H ρ σ:=λi s e=>by
 obtain⟨v,h1,h2⟩:=r.wor i s e;exact⟨v,h1,h2.pl λa q=>r.zne i a q⟩
theorem RvW.mono{i:Nat}{s:S}{v:V}(h:RvW K zA ow H i s v)(hz':∀ a,ow i=some a->zA≠some a)(x:Ext zA H H'):RvW K zA ow H' i s v:=by
 cases s with
 |d y=>exact⟨h.1,h.2.same (d80 x)⟩|z=>exact h|ks l=>obtain⟨n,d,q,k⟩:=h;exact⟨n,d,q,k.same (d80 x)⟩
 |fr xs =>
  obtain⟨a,ys,h1,rfl,h3,h4⟩:=h;exact⟨a,ys,h1,rfl,x.at h3 (hz' a h1),h4.same (d80 x)⟩
theorem I71(zA:Option Æ)(H:Hp):a10 (hz zA H) (hz none H):=λ_ _ h=>c40 (m30 h).1 (λq=>nomatch q) (l80 h)
theorem Y30(e:Ext zE H0 H)(zok:zA=zE∨(zE=none/\∀ a,zA=some a->H0 a=none))(x:Ext zA H H'):Ext zE H0 H':=by
 rcases zok with rfl | ⟨rfl,hn⟩
 ·exact e.trans x
 ·refine⟨λb o h=>?_,λb ps h=>let ⟨qs,q⟩:=e.tbl b ps h;x.tbl b qs q⟩;have h1:=e.same b o h;refine c40 (x.at (m30 h1).1 (λq=>?_) (l80 h1)) (λq=>nomatch q) (l80 h1);have h0:=(m30 h).1;rw[hn b q] at h0;cases h0
theorem RW.mono(r:RW K H0 zE zA ow H ρ σ)(x:Ext zA H H'):RW K H0 zE zA ow H' ρ σ :=
 ⟨r.len,r.inj,r.zne,r.own,λi s e=>let ⟨v,h1,h2⟩:=r.wor i s e;⟨v,h1,h2.mono (λa q=>r.zne i a q) x⟩,Y30 r.ext r.zok x,r.zok,r.new⟩
theorem RW.young(r:RW K H0 zE zA ow H ρ σ)(h:H a=none)(n:zA≠some a):H0 a=none/\zE≠some a:=by
 have hE:zE≠some a:=λq=>by
  rcases r.zok with rfl | ⟨rfl,_⟩
  ·exact n q
  ·cases q
 exact⟨r.ext.free h hE,hE⟩
theorem RW.out(r:RW K H0 zE zA ow H ρ σ){s:S}{v:V}(hs:s≠.z)(x:Ext zA H H')(h:RvS K zA H H' s v):RvS K zE H0 H' s v:=by
 have sm:a10 (hz zA H') (hz zE H'):=by
  rcases r.zok with rfl | ⟨rfl,_⟩
  ·exact a10.refl _
  ·exact I71 _ _
 cases s with
 |d y=>exact Hd.same sm h|z=>exact absurd rfl hs|ks l=>obtain⟨d,q,k⟩:=h;exact⟨d,q,k.same sm⟩
 |fr xs =>
  obtain⟨a,ys,rfl,h1,h2,h3,h4⟩:=h;obtain⟨k1,k2⟩:=r.young h1 h2;exact⟨a,ys,rfl,k1,k2,h3,h4.same (z60 λb o _ q=>sm b o q)⟩
theorem RW.G22(r:RW K H0 zE zA ow H ρ σ){i:Nat}{s:S}(hs:s≠.z)(e:ρ[i]?=some (some s)):∃ v,σ[i]?=some (some v)/\RvS K zE H0 H s v:=by
 obtain⟨v,h1,h2⟩:=r.wor i s e;have sm:a10 (hz zA H) (hz zE H):=by
  rcases r.zok with rfl | ⟨rfl,_⟩
  ·exact a10.refl _
  ·exact I71 _ _
 refine⟨v,h1,?_⟩;cases s with
 |d y=>exact Hd.same (a10.trans g20 sm) h2.2|z=>exact absurd rfl hs|ks l=>obtain⟨_,d,q,k⟩:=h2;exact⟨d,q,k.same (a10.trans g20 sm)⟩
 |fr xs =>
  obtain⟨a,ys,k1,rfl,k3,k4⟩:=h2;have n:=r.zne i a k1;have hE:zE≠some a:=λq=>by
   rcases r.zok with rfl | ⟨rfl,_⟩
   ·exact n q
   ·cases q
  refine⟨a,ys,rfl,r.new i a k1,hE,k3,k4.same λb o q=>?_⟩;obtain⟨q1,q2⟩:=A70 q;exact l00 (sm b o q1) λz=>q2 i (by rw[z];exact k1)
theorem RW.S00(r:RW K H0 zE zA ow H ρ σ):RW K H0 zE zA (λ_=>none) H (S00 ρ) σ:=by
 refine⟨by unfold Q.S00;rw[È];exact r.len,λi j a h=>(by cases h),λi a h=>(by cases h),λi a h=>(by cases h),λi s e=>?_,r.ext,r.zok,λi a h=>(by cases h)⟩
 unfold Q.S00 at e;rw[Þ] at e;obtain⟨o,e1,e2⟩:=Ê.mp e;cases o with
 |none=>cases e2
 |some s0 =>
  cases e2;obtain⟨v,h1,h2⟩:=r.Q30 i s0 e1;refine⟨v,h1,?_⟩;cases s0 with
  |d y=>exact⟨rfl,by rw[m60];exact h2⟩|fr xs=>exact⟨rfl,by rw[m60];exact h2⟩|z=>exact⟨rfl,h2⟩|ks l=>exact⟨rfl,by rw[m60];exact h2⟩
def ow0(ow:Nat->Option Æ)(i:Nat):Nat->Option Addr:=λj=>if j=i then none else ow j
def ow1(ow:Nat->Option Æ)(i:Nat)(a:Æ):Nat->Option Addr:=λj=>if j=i then some a else ow j
theorem RvW.move{ow':Nat->Option Æ}{j:Nat}{s:S}{v:V}(h:RvW K zA ow H j s v)(e:ow' j=ow j)(sm:a10 (hw ow (hz zA H)) (hw ow' (hz zA H')))(hk:∀ a,ow j=some a->H' a=H a):RvW K zA ow' H' j s v:=by
 cases s with
 |d y=>exact⟨by rw[e];exact h.1,h.2.same sm⟩|z=>exact⟨by rw[e];exact h.1,h.2⟩|ks l=>obtain⟨n,d,q,k⟩:=h;exact⟨by rw[e];exact n,d,q,k.same sm⟩
 |fr xs =>
  obtain⟨a,ys,h1,rfl,h3,h4⟩:=h;exact⟨a,ys,by rw[e];exact h1,rfl,by rw[hk a h1];exact h3,h4.same sm⟩
theorem getElem?_set'{α:Type}{l:List α}{i j:Nat}{x y:α}(h:(l.set i x)[j]?=some y):(j=i/\y=x/\i < l.length)∨(j≠i/\l[j]?=some y):=by
 by_cases hj:j=i
 ·subst hj;have hlt:j < l.length:=by
   have:=(ä.mp h).1;simpa using this
  rw[à hlt] at h;cases h;exact .inl ⟨rfl,rfl,hlt⟩
 ·rw[Õ (À1 hj)] at h;exact .inr ⟨hj,h⟩
theorem RW.G32(r:RW K H0 zE zA ow H ρ σ){i:Nat}(h:Hd K (hw ow (hz zA H)) x v):RW K H0 zE zA (ow0 ow i) H (ρ.set i (some (.d x))) (σ.set i (some v)):=by
 have sub:∀ j a,ow0 ow i j=some a->j≠i/\ow j=some a:=λj a e=>by
  unfold ow0 at e;split at e
  ·cases e
  ·rename_i n;exact⟨n,e⟩
 have sm:a10 (hw ow (hz zA H)) (hw (ow0 ow i) (hz zA H)):=λb o e=>by
  obtain⟨e1,e2⟩:=A70 e;exact g40 e1 λj q=>e2 j (sub j b q).2
 refine⟨by rw[À6,À6];exact r.len,λj k a h1 h2=>r.inj j k a (sub j a h1).2 (sub k a h2).2,λj a h1=>r.zne j a (sub j a h1).2,λj a h1=>?_,λj s e=>?_,r.ext,r.zok,λj a h1=>r.new j a (sub j a h1).2⟩
 ·obtain⟨n,h2⟩:=sub j a h1;obtain⟨xs,h3⟩:=r.own j a h2;exact⟨xs,by rw[Õ (À1 n)];exact h3⟩
 ·rcases getElem?_set' e with ⟨rfl,e1,hlt⟩ | ⟨n,e1⟩
  ·cases e1;exact⟨v,à (by rw[← r.len];exact hlt),by unfold ow0;exact if_pos rfl,h.same sm⟩
  ·obtain⟨w,h1,h2⟩:=r.wor j s e1;exact⟨w,by rw[Õ (À1 n)];exact h1,h2.move (by unfold ow0;exact if_neg n) sm λ_ _=>rfl⟩
theorem RW.z32(r:RW K H0 zE zA ow H ρ σ){i:Nat}{t:S}{v:V}(h:RvW K zA (ow0 ow i) H i t v):RW K H0 zE zA (ow0 ow i) H (ρ.set i (some t)) (σ.set i (some v)):=by
 have sub:∀ j a,ow0 ow i j=some a->j≠i/\ow j=some a:=λj a e=>by
  unfold ow0 at e;split at e
  ·cases e
  ·rename_i n;exact⟨n,e⟩
 have sm:a10 (hw ow (hz zA H)) (hw (ow0 ow i) (hz zA H)):=λb o e=>by
  obtain⟨e1,e2⟩:=A70 e;exact g40 e1 λj q=>e2 j (sub j b q).2
 refine⟨by rw[À6,À6];exact r.len,λj k a h1 h2=>r.inj j k a (sub j a h1).2 (sub k a h2).2,λj a h1=>r.zne j a (sub j a h1).2,λj a h1=>?_,λj s e=>?_,r.ext,r.zok,λj a h1=>r.new j a (sub j a h1).2⟩
 ·obtain⟨n,h2⟩:=sub j a h1;obtain⟨xs,h3⟩:=r.own j a h2;exact⟨xs,by rw[Õ (À1 n)];exact h3⟩
 ·rcases getElem?_set' e with ⟨rfl,e1,hlt⟩ | ⟨n,e1⟩
  ·cases e1;exact⟨v,à (by rw[← r.len];exact hlt),h⟩
  ·obtain⟨w,h1,h2⟩:=r.wor j s e1;exact⟨w,by rw[Õ (À1 n)];exact h1,h2.move (by unfold ow0;exact if_neg n) sm λ_ _=>rfl⟩
theorem RW.G42(r:RW K H0 zE zA ow H ρ σ){i:Nat}(x:Ext zA H H')(hn:H a=none)(za:zA≠some a)(hl:H' a=some (.lst ys))(h:HdA K (hw (ow1 ow i a) (hz zA H')) xs ys)(hi:i < ρ.length) :
  RW K H0 zE zA (ow1 ow i a) H' (ρ.set i (some (.fr xs))) (σ.set i (some (.ref a))):=by
 have r':=r.mono x;have old:∀ j b,ow j=some b->b≠a:=λj b e q=>by
  obtain⟨zs,h1⟩:=r.lst j b e;rw[q,hn] at h1;cases h1
 have sub:∀ j b,ow1 ow i a j=some b->(j=i/\b=a)∨(j≠i/\ow j=some b):=λj b e=>by
  unfold ow1 at e;split at e
  ·rename_i n;cases e;exact .inl ⟨n,rfl⟩
  ·rename_i n;exact .inr ⟨n,e⟩
 have sm:a10 (hw ow (hz zA H)) (hw (ow1 ow i a) (hz zA H')):=λb o e=>by
  obtain⟨e1,e2⟩:=A70 e;have e3:=(m30 e1).1;have hb:b≠a:=λq=>by rw[q,hn] at e3;cases e3
  refine g40 (x b o e1) λj q=>?_;rcases sub j b q with ⟨_,q⟩ | ⟨_,q⟩
  ·exact hb q
  ·exact e2 j q
 refine⟨by rw[À6,À6];exact r.len,λj k b h1 h2=>?_,λj b h1=>?_,λj b h1=>?_,λj s e=>?_,r'.ext,r.zok,λj b h1=>?_⟩
 ·rcases sub j b h1 with ⟨q1,q2⟩ | ⟨q1,q2⟩
  ·rcases sub k b h2 with ⟨p1,p2⟩ | ⟨p1,p2⟩
   ·rw[q1,p1]
   ·exact absurd q2 (old k b p2)
  ·rcases sub k b h2 with ⟨p1,p2⟩ | ⟨p1,p2⟩
   ·exact absurd p2 (old j b q2)
   ·exact r.inj j k b q2 p2
 ·rcases sub j b h1 with ⟨_,q2⟩ | ⟨_,q2⟩
  ·rw[q2];exact za
  ·exact r.zne j b q2
 ·rcases sub j b h1 with ⟨q1,q2⟩ | ⟨q1,q2⟩
  ·rw[q1];exact⟨xs,à hi⟩
  ·obtain⟨zs,h3⟩:=r.own j b q2;exact⟨zs,by rw[Õ (À1 q1)];exact h3⟩
 ·rcases getElem?_set' e with ⟨rfl,e1,hlt⟩ | ⟨n,e1⟩
  ·cases e1;exact⟨.ref a,à (by rw[← r.len];exact hlt),a,ys,by unfold ow1;exact if_pos rfl,rfl,hl,h⟩
  ·obtain⟨w,h1,h2⟩:=r.wor j s e1;refine⟨w,by rw[Õ (À1 n)];exact h1,h2.move (by unfold ow1;exact if_neg n) sm λb q=>?_⟩
   obtain⟨zs,k⟩:=r.lst j b q;rw[k];exact x.at k (r.zne j b q)
 ·rcases sub j b h1 with ⟨_,q2⟩ | ⟨_,q2⟩
  ·rw[q2];exact(r.young hn za).1
  ·exact r.new j b q2
theorem RW.upd(r:RW K H0 zE zA ow H ρ σ){i:Nat}(e:ow i=some a)(h:HdA K (hw ow (hz zA H)) xs ys):RW K H0 zE zA ow (upd H a (.lst ys)) (ρ.set i (some (.fr xs))) σ:=by
 have za:=r.zne i a e;have sm:a10 (hw ow (hz zA H)) (hw ow (hz zA (L2.upd H a (.lst ys)))):=λb o q=>by
  obtain⟨e1,e2⟩:=A70 q;obtain⟨e3,e4⟩:=m30 e1;have hb:b≠a:=λz=>e2 i (by rw[z];exact e)
  exact g40 (c40 (by rw[a40 hb];exact e3) e4 (l80 e1)) e2
 obtain⟨xs0,h0⟩:=r.own i a e;have hi:i < ρ.length:=(ä.mp h0).1;obtain⟨v0,s0,a0,ys0,q1,q2,q3,q4⟩:=r.wor i _ h0;rw[e] at q1;cases q1;refine⟨by rw[À6];exact r.len,r.inj,r.zne,λj b h1=>?_,λj s q=>?_,⟨λb o q=>?_,λb ps q=>?_⟩,r.zok,r.new⟩
 ·by_cases hj:j=i
  ·subst hj;exact⟨xs,à hi⟩
  ·obtain⟨zs,h3⟩:=r.own j b h1;exact⟨zs,by rw[Õ (À1 hj)];exact h3⟩
 ·rcases getElem?_set' q with ⟨rfl,e1,hlt⟩ | ⟨n,e1⟩
  ·cases e1;exact⟨v0,s0,a,ys,e,q2,b10,h.same sm⟩
  ·obtain⟨w,h1,h2⟩:=r.wor j s e1;refine⟨w,h1,h2.move rfl sm λb q=>?_⟩;have hb:b≠a:=λz=>n (r.inj j i b q (by rw[z];exact e))
   exact a40 hb
 ·obtain⟨e1,e2⟩:=m30 (r.ext b o q);have hb:b≠a:=λz=>by
   have:=(m30 q).1;rw[z,r.new i a e] at this;cases this
  exact c40 (by rw[a40 hb];exact e1) e2 (l80 q)
 ·obtain⟨qs,e1⟩:=r.ext.tbl b ps q;have hb:b≠a:=λz=>by rw[z,q3] at e1;cases e1
  exact⟨qs,by rw[a40 hb];exact e1⟩
end
end Q
namespace Q
open PySem L2 PySem.Spec PyProof.Rows
variable [TB:Tb]
def l22:Option Æ->Z->Z
 |none,_=>none|some _,z=>z
def q30(K:Â)(G:Gs)(E:XK)(H0:Hp)(zE:Option Æ)(B:Hp)(D:Ends):R O->Prop
 |.ok (.nx ρ) z=>∀ zA ow σ H,RW K H0 zE zA ow H ρ σ->d70 zA z H->a10 B (hw ow (hz zA H))->D.nx σ H|.ok (.rt s) z=>∀ v H,s≠.z->Ext zE H0 H->d70 zE (l22 zE z) H->RvS K zE H0 H s v->D.rt v H|.er c z=>∀ e H,Ext zE H0 H->d70 zE (l22 zE z) H->H e=none->E (.ref (G.cls c)) (some e) H
def tX(K:Â)(G:Gs)(E:XK)(H0:Hp)(zE:Option Æ)(x:Sm):TS:=λD σ H=>∃ zA ow ρ z r,RW K H0 zE zA ow H ρ σ/\d70 zA z H/\ex G.F zE.isNone x ρ z=some r/\q30 K G E H0 zE (hw ow (hz zA H)) D r
section
variable {K:Â}{G:Gs}{E:XK}{H0 H H':Hp}{zE zA:Option Æ}{ow:Nat->Option Æ}{ρ:Env}{σ:L2.St}{Dn:Ends}{z:Z}
theorem R71(zok:zA=zE∨(zE=none/\∀ a,zA=some a->H0 a=none))(st:d70 zA z H):d70 zE (l22 zE z) H:=by
 cases zE with
 |none=>exact⟨trivial,st.tab⟩
 |some a =>
  rcases zok with rfl | ⟨h,_⟩
  ·exact st
  ·cases h
theorem q30.er_(po:q30 K G E H0 zE B Dn (.er c z))(r:RW K H0 zE zA ow H ρ σ):EPost G zA E c z H:=λe H' x st n=>po e H' (Y30 r.ext r.zok x) (R71 r.zok st) n
theorem q30.ers(po:q30 K G E H0 zE B Dn rr)(r:RW K H0 zE zA ow H ρ σ):∀ c z1,rr=.er c z1->EPost G zA E c z1 H:=λc z1 e=>by subst e;exact po.er_ r
theorem q30.mono(po:q30 K G E H0 zE B Dn rr)(h:a10 B B'):q30 K G E H0 zE B' Dn rr:=by
 match rr,po with
 |.ok (.nx _) _,po=>exact λzA ow σ H r st sm=>po zA ow σ H r st (a10.trans h sm)|.ok (.rt _) _,po=>exact po|.er _ _,po=>exact po
theorem l10(ow:Nat->Option Æ)(i:Nat):a10 (hw ow H) (hw (ow0 ow i) H):=λb o e=>by
 obtain⟨e1,e2⟩:=A70 e;refine g40 e1 λj q=>?_;unfold ow0 at q;split at q
 ·cases q
 ·exact e2 j q
theorem A80(ow:Nat->Option Æ):a10 (hw ow H) (hw (λ_=>none) H):=λb o e=>g40 (A70 e).1 λj q=>nomatch q
theorem C21(x:Ext zA H H')(hn:H a=none)(i:Nat):a10 (hw ow (hz zA H)) (hw (ow1 ow i a) (hz zA H')):=λb o e=>by
 obtain⟨e1,e2⟩:=A70 e;have e3:=(m30 e1).1;have hb:b≠a:=λq=>by rw[q,hn] at e3;cases e3
 refine g40 (x b o e1) λj q=>?_;unfold ow1 at q;split at q
 ·cases q;exact hb rfl
 ·exact e2 j q
theorem R81(e:ow i=some a):a10 (hw ow (hz zA H)) (hw ow (hz zA (upd H a o))):=λb u q=>by
 obtain⟨e1,e2⟩:=A70 q;obtain⟨e3,e4⟩:=m30 e1;have hb:b≠a:=λw=>e2 i (by rw[w];exact e)
 exact g40 (c40 (by rw[a40 hb];exact e3) e4 (l80 e1)) e2
mutual
theorem C31:∀ {p:Pat}{d:D}{ρ ρ':Env},e40 p d ρ=some ρ'->∀ {ow:Nat->Option Æ}{σ:L2.St}{v:V}{R:L2.St->Hp->Prop},RW K H0 zE zA ow H ρ σ->Hd K (hw ow (hz zA H)) d v ->
  (∀ ow' σ',RW K H0 zE zA ow' H ρ' σ'->a10 (hw ow (hz zA H)) (hw ow' (hz zA H))->R σ' H)->gP K p v σ H R
 |.v i,d,ρ,ρ',e,ow,σ,v,R,r,hd,k=>by
  unfold e40 at e;cases e;unfold gP;exact k _ _ (r.G32 hd) (l10 ow i)
 |.tup ps,d,ρ,ρ',e,ow,σ,v,R,r,hd,k=>by
  unfold e40 at e;cases d with
  |tup l =>
   obtain⟨a,xs,rfl,h1,h2⟩:=hd.t90;unfold gP;exact⟨a,xs,rfl,(a00 zA H).sqT (a10.sqT g20 h1),by rw[h2.length];exact A50 e,p31 e r h2 k⟩
  |_=>cases e
 |.nil,_,_,_,e,_,_,_,_,_,_,_=>by unfold e40 at e;cases e
 |.cons _ _,_,_,_,e,_,_,_,_,_,_,_=>by unfold e40 at e;cases e
theorem p31:∀ {r:Pat}{l:List D}{ρ ρ':Env},bindL r l ρ=some ρ'->∀ {ow:Nat->Option Æ}{σ:L2.St}{vs:List V}{R:L2.St->Hp->Prop},RW K H0 zE zA ow H ρ σ->HdA K (hw ow (hz zA H)) l vs ->
  (∀ ow' σ',RW K H0 zE zA ow' H ρ' σ'->a10 (hw ow (hz zA H)) (hw ow' (hz zA H))->R σ' H)->gL K r vs σ H R
 |.nil,l,ρ,ρ',e,ow,σ,vs,R,r,hd,k=>by
  unfold bindL at e;cases l with
  |nil =>
   cases e;unfold gL;exact⟨hd.e50,k ow σ r (a10.refl _)⟩
  |cons x l=>cases e
 |.cons p q,l,ρ,ρ',e,ow,σ,vs,R,r,hd,k=>by
  unfold bindL at e;cases l with
  |nil=>cases e
  |cons x l =>
   obtain⟨ρ1,e1,e2⟩:=Ï.mp e;obtain⟨v,ws,rfl,h1,h2⟩:=hd.b90;unfold gL;exact⟨v,ws,rfl,C31 e1 r h1 λow' σ' r' sm=>p31 e2 r' (h2.same sm) λow2 σ2 r2 sm2=>k ow2 σ2 r2 (a10.trans sm sm2)⟩
 |.v _,_,_,_,e,_,_,_,_,_,_,_=>by unfold bindL at e;cases e
 |.tup _,_,_,_,e,_,_,_,_,_,_,_=>by unfold bindL at e;cases e
end
theorem p41(r:RW K H0 zE zA ow H ρ σ)(s:S):∃ ow',RW K H0 zE zA ow' H (k10 s ρ) σ/\a10 (hw ow (hz zA H)) (hw ow' (hz zA H))/\(M80 s=true∨∀ i,ow' i=none):=by
 unfold k10;rw[N00];cases hb:M80 s with
 |true=>exact⟨ow,r,a10.refl _,.inl rfl⟩|false=>exact⟨_,r.S00,A80 ow,.inr λ_=>rfl⟩
theorem C41{p:Pat}{s:S}{v:V}{ρ':Env}{R:L2.St->Hp->Prop}(r:RW K H0 zE zA ow H ρ σ)(x:Ext zA H H')(rv:RvS K zA H H' s v)(e:G90 p s (k10 s ρ)=some ρ')
  (k:∀ ow' σ',RW K H0 zE zA ow' H' ρ' σ'->a10 (hw ow (hz zA H)) (hw ow' (hz zA H'))->R σ' H'):gP K p v σ H' R:=by
 obtain⟨owk,r1,s1,b1⟩:=p41 r s;have r2:=r1.mono x;have s2:a10 (hw ow (hz zA H)) (hw owk (hz zA H')):=a10.trans s1 (d80 x);cases s with
 |d y =>
  have e':e40 p y (k10 (.d y) ρ)=some ρ':=by cases p <;> exact e
  refine C31 e' r2 ?_ λow' σ' r3 s3=>k ow' σ' r3 (a10.trans s2 s3);rcases b1 with b1 | b1
  ·exact I30 r2.I61 b1 rv
  ·have:owk=λ_=>none:=funext b1;subst this;rw[m60];exact rv
 |z =>
  cases p with
  |v i =>
   simp only[G90] at e;split at e
   ·cases e;unfold gP;exact k _ _ (r2.z32 (t:=.z) ⟨if_pos rfl,rv⟩) (a10.trans s2 (l10 owk i))
   ·cases e
  |_=>cases e
 |ks l =>
  cases p with
  |v i =>
   simp only[G90] at e;split at e
   ·cases e;unfold gP;obtain⟨d,rfl,h1⟩:=rv;exact k _ _ (r2.z32 (t:=.ks l) ⟨if_pos rfl,d,rfl,(t92 r2.I61 h1).same (l10 owk i)⟩) (a10.trans s2 (l10 owk i))
   ·cases e
  |_=>cases e
 |fr xs =>
  cases p with
  |v i =>
   simp only[G90] at e;split at e
   ·rename_i hi;cases e;unfold gP;obtain⟨a,ys,rfl,h1,h2,h3,h4⟩:=rv;refine k _ _ (r1.G42 x h1 h2 h3 ?_ hi) (a10.trans s1 (C21 x h1 i));rcases b1 with b1 | b1
    ·refine y00 (λj b q=>?_) b1 (h4.same (d50 a _));unfold ow1 at q;split at q
     ·cases q;exact⟨ys,c40 h3 h2⟩
     ·exact r2.I61 j b q
    ·refine h4.same λb o q=>?_;have hb:b≠a:=λw=>by subst w;unfold hide at q;rw[if_pos rfl] at q;cases q
     refine g40 (d50 a _ b o q) λj w=>?_;unfold ow1 at w;split at w
     ·cases w;exact hb rfl
     ·rw[b1 j] at w;cases w
   ·cases e
  |_=>cases e
end
end Q
namespace Q
open PySem L2 PySem.Spec PyProof.Rows
variable [TB:Tb]
theorem R91(h:k20 v=false):Ã2 [tg] v env=pure none:=by
 cases tg <;> first | rfl | (cases v <;> first | (cases h;done) | rfl)
theorem S01(h:vs.all (Ø3 8)=true):Ã2 [.Tuple ts k p] (.Tuple vs k' p') env=pure none:=by
 unfold Ã2;simp only[h,if_true];split
 ·rfl
 ·split
  ·rfl
  ·split
   ·rfl
   ·rfl
def p51(look:Str->Option É2):Î->Bool
 |.Name id _=>look id != some .local|_=>true
theorem S11(h:ts.any (p51 env.kindOf)=true):Ã2 [.Tuple ts k p] (.Tuple vs k' p') env=pure none:=by
 have hl:∀ (l:Nat) (ts:List Î),ts.any (p51 env.kindOf)=true->(ts.filterMap fun
   |.Name id pos=>if env.kindOf id == some .local&&pos.line == l then some id else none
   |_=>none).length < ts.length:=by
  intro l ts
  induction ts with
  |nil=>intro h;cases h
  |cons e r ih =>
   intro h;have le:=List.length_filterMap_le (fun
    |.Name id pos=>if env.kindOf id == some .local&&pos.line == l then some id else none
    |_=>none:Î->Option Str) r
   rw[List.any_cons,Å5] at h;rw[Á3];split
   ·rw[ß];omega
   ·rename_i b hb;rcases h with h | h
    ·exfalso;cases e with
     |Name id pos =>
      have h':(env.kindOf id != some .local)=true:=h;simp only[bne_iff_ne,ne_eq] at h';simp[h'] at hb
     |_=>cases hb
    ·have:=ih h;rw[ß,ß];omega
 unfold Ã2;dsimp only;split
 ·rfl
 ·split
  ·rfl
  ·have:=hl ((ts.head?.map (·.pos.line)).getD 0) ts h;rw[if_pos];simp only[Å5,bne_iff_ne,ne_eq];exact .inl (Û this)
theorem f72{x y:Str}{a b:Î}{px py pt pt2:Pos}{k k2:Nat}{env:Æ1}(hb:env.blockKind=.function)(hx:env.kindOf x=some .local)(hy:env.kindOf y=some .local)(hxy:(x == y)=false)(hl:(py.line == px.line)=true)
  (ha:noStar a=true) (hb':noStar b=true) (hf:[a,b].all (Ø3 8)=false) (hc:[a,b].all (constantsAlone 8)=false) :
  Ã2 [.Tuple [.Name x px,.Name y py] k pt] (.Tuple [a,b] k2 pt2) env=pure (some [x,y]):=by
 have hbk:(env.blockKind != .function)=false:=by rw[hb];rfl
 have e1:(x == x)=true:=beq_self_eq_true x;have hyx:(y == x)=false:=by
  cases h:y == x with
  |false=>rfl|true=>rw[beq_iff_eq] at h;subst h;rw[e1] at hxy;cases hxy
 have hl2:(Î.Name x px).pos.line=px.line:=rfl;have hl3:(Î.Name y py).pos.line=py.line:=rfl;have hl':py.line=px.line:=by simpa using hl
 unfold Ã2;simp only[List.filterMap,List.head?,Ë9,Option.getD,hx,hy,hf,hc,hbk,hl2,hl'];simp[List.eraseDups,List.eraseDupsBy,List.eraseDupsBy.loop,hyx,hxy];intro h;rcases h with h | h
 ·cases a <;> first | (cases h;done) | (cases ha;done)
 ·cases b <;> first | (cases h;done) | (cases hb';done)
def O10:Î->Bool
 |.ListComp ..=>false|.SetComp ..=>false|.DictComp ..=>false|_=>true
theorem s70(h:O10 v=true)(t:Option Î):Í9 v t n env=pure false:=by
 cases v <;> first | rfl | (cases h;done)
theorem O20(h:(match tg with | .Name ..=>true | _=>false)=false):Í9 v (some tg) n env=pure false:=by
 cases v <;> first | rfl | (cases tg <;> first | rfl | (cases h;done))
theorem C51{a b:Î}{c:List Comprehension}{d:À3}{f px:Pos}{t:Str}{n:Nat}{env:Æ1}(h:env.kindOf t=some .cell∨env.kindOf t=some .free):Í9 (.DictComp a b c d f) (some (.Name t px)) n env=pure false:=by
 show(pure (env.blockKind == .function&&env.kindOf t == some .local&&_&&_):Sem Bool)=_;have e:(env.kindOf t == some .local)=false:=by rcases h with h | h <;> rw[h] <;> rfl
 rw[e,Bool.and_false,É5,É5]
theorem C61{el:Î}{gs:List Comprehension}{sc:À3}{p px:Pos}{t:Str}{n:Nat}{env:Æ1}:∃ b,Í9 (.ListComp el gs sc p) (some (.Name t px)) n env=pure b:=⟨_,rfl⟩
structure XS(lm:Bool)(X:Cx)(G:Gs)(E:XK)(N:List Str)(sc:Scope)(cn:List Str):Prop extends XI lm X G E N sc where
 sco:X.env.scope=sc
 fnk:sc.kind=.function
 own:PassesOwn (model X.prog X.w) X.A X.env X.xe
 can:G50 X E
 fnx:∀ x,X.fn x=true
 cls:∀ c x,cn[c]?=some x->X.mg x=some (.ref (G.cls c))/\PySem.W.excIn X.K (G.cls c) [.type "ValueError",.type "Exception",.type "BaseException",.type "object"] "ValueError.__new__"=true
def y10(sc:À3)(x:Str):Bool:=sc.names.lookup x == some .local || sc.names.lookup x == some .cell
section
variable {lm:Bool}{X:Cx}{G:Gs}{E:XK}{N:List Str}{sc:À3}{cn:List Str}{H0:Hp}{zE:Option Æ}
theorem XS.loc(x:XS lm X G E N sc cn):B81 X N (y10 sc):=by
 refine⟨x.hN,x.nd,λy h=>?_,λy _=>.inl (x.fnx y),x.calm⟩;unfold y10 at h;rw[Å5,beq_iff_eq,beq_iff_eq] at h;rw[x.sco];exact h
theorem XS.bk(x:XS lm X G E N sc cn):X.env.blockKind=.function:=by
 unfold Env.blockKind;rw[x.sco,x.fnk];rfl
theorem PS.imp{st:Ã8}{t t':TS}(h:PS X st t)(i:∀ D σ H,t' D σ H->t D σ H):PS X st t':=λpins s σ H D I q=>h pins s σ H D I (i _ _ _ q)
theorem PSs.imp{st:List Ã8}{t t':TS}(h:PSs X st t)(i:∀ D σ H,t' D σ H->t D σ H):PSs X st t':=λpins s σ H D I q=>h pins s σ H D I (i _ _ _ q)
theorem u02:PSs X [] (tX X.K G E H0 zE .nil):=PSs.imp K21 λD σ H q=>by
 obtain⟨zA,ow,ρ,z,r,rw,st,e,po⟩:=q;cases e;exact po zA ow σ H rw st (a10.refl _)
theorem u12{s r:Sm}{st:Ã8}{rest:List Ã8}(h1:PS X st (tX X.K G E H0 zE s))(h2:PSs X rest (tX X.K G E H0 zE r)):PSs X (st::rest) (tX X.K G E H0 zE (.seq s r)):=PSs.imp (E70 h1 h2) λD σ H q=>by
 obtain⟨zA,ow,ρ,z,rr,rw,st,e,po⟩:=q;have e0:M.bind (ex G.F zE.isNone s ρ) (λo=>match o with | .nx ρ=>ex G.F zE.isNone r ρ | .rt s=>M.ret (.rt s)) z=some rr:=e
 rcases M.bind_some e0 with ⟨o,z1,e1,e2⟩ | ⟨c,z1,e1,e2⟩
 ·refine⟨zA,ow,ρ,z,_,rw,st,e1,?_⟩;cases o with
  |nx ρ1=>exact λzA' ow' σ' H' rw' st' sm=>⟨zA',ow',ρ1,z1,rr,rw',st',e2,po.mono sm⟩|rt s=>cases e2;exact po
 ·subst e2;exact⟨zA,ow,ρ,z,_,rw,st,e1,po⟩
theorem I81{p:Pat}{e:Ex}{D:Ends}{σ:L2.St}{H:Hp}(q:tX X.K G E H0 zE (.set p e) D σ H):X91 (tI X.K G E e) (gP X.K p) D σ H:=by
 obtain⟨zA,ow,ρ,z,rr,rw,st,ee,po⟩:=q;refine j50 rw.Q30 st ee (po.ers rw) λl z1 e1=>?_;obtain⟨s,hs,e2⟩:=M.a30 e1;refine⟨s,A40 hs,λv H1 x1 st1 rv=>?_⟩;obtain⟨ρ',hb,e3⟩:=M.a30 e2;cases e3;exact C41 rw x1 rv hb λow' σ' r' sm=>po zA ow' σ' H1 r' st1 sm
theorem G52{K:Â}{i:Nat}:gP K (.v i)=K20 i:=by unfold gP;rfl
theorem u22(x:XS lm X G E N sc cn){i:Nat}{e:Ex}{y:Str}{v:Î}{px pos:Pos}(hi:N[i]?=some y)(hl:y10 sc y=true)(g:a70 X G E e v)
  (hc:∀ elt gs csc q,v=.ListComp elt gs csc q->∃ tg iter ifs,gs=[⟨tg,iter,ifs,0⟩]/\D90 X G E e elt tg iter ifs csc) (hno:∀ a b c d,v≠.SetComp a b c d)
  (hnd:∀ a b c d f,v=.DictComp a b c d f->sc.names.lookup y=some .cell) :
  PS X (.Assign [.Name y px] v pos) (tX X.K G E H0 zE (.set (.v i) e)):=by
 have L:=x.loc;refine PS.imp (t:=X91 (tI X.K G E e) (K20 i)) ?_ λD σ H q=>by rw[← G52 (K:=X.K)];exact I81 q
 have h1:X.N.Nodup:=by rw[x.hN];exact x.nd
 have h2:X.N[i]?=some y:=by rw[x.hN];exact hi
 by_cases hv:∃ elt gs csc q,v=.ListComp elt gs csc q
 ·obtain⟨elt,gs,csc,q,rfl⟩:=hv;obtain⟨b,hb⟩:=C61 (el:=elt) (gs:=gs) (sc:=csc) (p:=q) (px:=px) (t:=y) (n:=pos.line) (env:=X.env);cases b with
  |false=>exact K30 h1 h2 (L.lc y hl) g.pe hb (L.fn y hl)
  |true =>
   obtain⟨tg,iter,ifs,rfl,own,capt,wi,gg,tt,te,k1,k2,k3,k4,k5,k6,k7⟩:=hc elt gs csc q rfl;refine PS.imp (L71 h1 h2 (L.lc y hl) hb x.calm k1 k2 k3 k4 k5 k6 (L.fn y hl)) λD σ H q=>k7 _ _ _ q
 ·by_cases hd:∃ a b c d f,v=.DictComp a b c d f
  ·obtain⟨a,b,c,d,f,rfl⟩:=hd;exact K30 h1 h2 (L.lc y hl) g.pe (C51 (x.cel y (.inl (hnd _ _ _ _ _ rfl)))) (L.fn y hl)
  ·exact K30 h1 h2 (L.lc y hl) g.pe (s70 (by cases v <;> first | rfl | exact absurd rfl (hno _ _ _ _) | exact absurd ⟨_,_,_,_,_,rfl⟩ hd | exact absurd ⟨_,_,_,_,rfl⟩ hv) _) (L.fn y hl)
theorem p61(x:XS lm X G E N sc cn)(hp:g70 N (y10 sc) p tg=true)(g:a70 X G E e v)(ht:k20 tg=true)(hv:Ã2 [tg] v X.env=pure none) :
  PS X (.Assign [tg] v pos) (tX X.K G E H0 zE (.set p e)):=by
 refine PS.imp (G31 g.pe (e51 x.loc hp) ?_ hv ?_) λD σ H q=>I81 q
 ·exact O20 (by cases tg <;> first | rfl | (cases ht;done))
 ·cases tg <;> first | rfl | (cases ht;done)
theorem u32(x:XS lm X G E N sc cn){i j:Nat}{ea eb:Ex}{a b:Î}{y w:Str}{px py pt pt2 pos:Pos}{k k2:Nat}(hi:N[i]?=some y)(hj:N[j]?=some w)(hyw:(y == w)=false)(hy:sc.names.lookup y=some .local)(hw':sc.names.lookup w=some .local)
  (g:Good X G E (.cons ea (.cons eb .nil)) [a,b]) (hs:Ã2 [.Tuple [.Name y px,.Name w py] k pt] (.Tuple [a,b] k2 pt2) X.env=pure (some [y,w])) :
  PS X (.Assign [.Tuple [.Name y px,.Name w py] k pt] (.Tuple [a,b] k2 pt2) pos) (tX X.K G E H0 zE (.set (.tup (.cons (.v i) (.cons (.v j) .nil))) (.tup (.cons ea (.cons eb .nil))))):=by
 have hij:i≠j:=λh=>by
  subst h;rw[hi] at hj;cases hj;rw[beq_self_eq_true] at hyw;cases hyw
 refine PS.imp (Y01 x.calm (by rw[x.hN];exact x.nd) (by rw[x.hN];exact hi) (by rw[x.hN];exact hj) hij (by rw[x.sco];exact hy) (by rw[x.sco];exact hw') (g.args rfl).1 hs rfl) λD σ H q=>?_
 obtain⟨zA,ow,ρ,z,rr,rw,st,ee,po⟩:=q;have e0:M.bind (M.bind (ev G.F (.cons ea (.cons eb .nil)) ρ) λl=>M.bind (M.of (plA l)) λds=>if ds.length<=most then M.ret [S.d (.tup ds)] else M.no) (λl=>M.bind (M.of (one l)) λs=>M.bind (M.of (G90 (.tup (.cons (.v i) (.cons (.v j) .nil))) s (k10 s ρ))) λρ=>M.ret (O.nx ρ)) z=some rr:=ee;rcases M.bind_some e0 with ⟨l0,z0,e1,e2⟩ | ⟨c,z1,e1,e2⟩
 ·rcases M.bind_some e1 with ⟨l,z1,e3,e4⟩ | ⟨c,z1,e3,e4⟩
  ·obtain⟨ds,hds,e5⟩:=M.a30 e4;split at e5
   ·cases e5;obtain⟨s,hs',e6⟩:=M.a30 e2;cases hs';obtain⟨ρ',hb,e7⟩:=M.a30 e6;cases e7;refine⟨zA,ρ,z,_,rw.Q30,st,e3,λvs H1 x1 st1 rvs=>?_⟩;have hd:=H60 rvs hds;obtain⟨owk,r1,s1,b1⟩:=p41 rw (.d (.tup ds));have hb':bindL (.cons (.v i) (.cons (.v j) .nil)) ds (k10 (.d (.tup ds)) ρ)=some ρ':=by
     have:e40 (.tup (.cons (.v i) (.cons (.v j) .nil))) (.tup ds) (k10 (.d (.tup ds)) ρ)=some ρ':=hb;unfold e40 at this;exact this
    have r2:=r1.mono x1;have hd2:HdA X.K (hw owk (hz zA H1)) ds vs:=by
     rcases b1 with b1 | b1
     ·exact y00 r2.I61 (by simpa [M80,bare] using b1) hd
     ·have:owk=λ_=>none:=funext b1;subst this;rw[m60];exact hd
    have:=p31 hb' (R:=D.nx) r2 hd2 λow' σ' r' sm=>po zA ow' σ' H1 r' st1 (a10.trans s1 (a10.trans (d80 x1) sm));unfold gL at this;obtain⟨v,vr,rfl,this⟩:=this;unfold gP gL at this;obtain⟨u,ur,rfl,this⟩:=this;unfold gP gL at this;obtain⟨rfl,this⟩:=this;exact⟨v,u,rfl,this⟩
   ·cases e5
  ·cases e4
 ·subst e2;rcases M.bind_some e1 with ⟨l,z2,e3,e4⟩ | ⟨c,z2,e3,e4⟩
  ·obtain⟨ds,hds,e5⟩:=M.a30 e4;split at e5 <;> cases e5
  ·cases e4;exact⟨zA,ρ,z,_,rw.Q30,st,e3,po.er_ rw⟩
theorem I91{s t:S}(h:noS s=some t):s=t/\t≠.z:=by
 cases s with
 |z=>cases h
 |ks _=>cases h
 |d _=>cases h;exact⟨rfl,λh=>nomatch h⟩
 |fr _=>cases h;exact⟨rfl,λh=>nomatch h⟩
theorem f82(x:XS lm X G E N sc cn){i:Nat}{n:Str}{p pos:Pos}(h1:N[i]?=some n)(h2:b50 n=true):PS X (.Return (some (.Name n p)) pos) (tX X.K G E H0 zE (.ret (.var i))):=by
 unfold b50 at h2;simp only[Á,ú] at h2;refine PS.imp (g21 (l60 (i:=i) (by rw[x.hN];exact h1) (x.vis n (ê h1)) h2.1 h2.2)) λD σ H q=>?_
 obtain⟨zA,ow,ρ,z,rr,rw,st,ee,po⟩:=q;have e0:(match ρ[i]? with | some (some s)=>M.bind (M.of (noS s)) λs=>M.ret (O.rt s) | _=>M.no) z=some rr:=ee
 cases hs:ρ[i]? with
 |none=>rw[hs] at e0;cases e0
 |some o =>
  cases o with
  |none=>rw[hs] at e0;cases e0
  |some s =>
   rw[hs] at e0;obtain⟨t,ht,e1⟩:=M.a30 e0;cases e1;obtain⟨rfl,nz⟩:=I91 ht;obtain⟨v,k1,k2⟩:=rw.G22 nz hs;exact⟨v,k1,po v H nz rw.ext (R71 rw.zok st) k2⟩
theorem u42(hv:∀ i,e≠.var i)(g:a70 X G E e v):PS X (.Return (some v) pos) (tX X.K G E H0 zE (.ret e)):=by
 refine PS.imp (g21 g.pe) λD σ H q=>?_;obtain⟨zA,ow,ρ,z,rr,rw,st,ee,po⟩:=q;have e0:M.bind (ev G.F e ρ) (λl=>M.bind (M.of ((one l).bind noS)) λs=>M.ret (O.rt s)) z=some rr:=by
  cases e <;> first | exact ee | exact absurd rfl (hv _)
 refine j50 rw.Q30 st e0 (po.ers rw) λl z1 e1=>?_;obtain⟨t,ht,e2⟩:=M.a30 e1;cases e2;obtain⟨s,hs,hn⟩:=Ï.mp ht;obtain⟨rfl,nz⟩:=I91 hn;exact⟨s,A40 hs,λv H1 x1 st1 rv=>po v H1 nz (Y30 rw.ext rw.zok x1) (R71 rw.zok st1) (rw.out nz x1 rv)⟩
theorem G62(g:a70 X G E c ce)(hn:∀ t a b p,ce≠.IfExp t a b p)(ha:PSs X a (tX X.K G E H0 zE t))(hb:PSs X b (tX X.K G E H0 zE u)) :
  PS X (.If ce a b pos) (tX X.K G E H0 zE (.iff c t u)):=by
 refine PS.imp (m42 (g.pt hn) ha hb) λD σ H q=>?_;obtain⟨zA,ow,ρ,z,rr,rw,st,ee,po⟩:=q;refine N70 rw.Q30 st ee (po.ers rw) λb z1 e1 H1 x1 st1=>?_;have r1:=rw.mono x1;have sm:a10 (hw ow (hz zA H)) (hw ow (hz zA H1)):=d80 x1;cases b with
 |true=>exact⟨zA,ow,ρ,z1,rr,r1,st1,e1,po.mono sm⟩|false=>exact⟨zA,ow,ρ,z1,rr,r1,st1,e1,po.mono sm⟩
theorem u52(g:a70 X G E e v)(h:O10 v=true):PS X (.Expr v pos) (tX X.K G E H0 zE (.exp e)):=by
 refine PS.imp (Q70 g.pe (s70 h none)) λD σ H q=>?_;obtain⟨zA,ow,ρ,z,rr,rw,st,ee,po⟩:=q;have e0:M.bind (ev G.F e ρ) (λl=>M.bind (M.of (one l)) λ_=>M.ret (O.nx ρ)) z=some rr:=ee;refine j50 rw.Q30 st e0 (po.ers rw) λl z1 e1=>?_;obtain⟨s,hs,e2⟩:=M.a30 e1;cases e2;exact⟨s,A40 hs,λv H1 x1 st1 rv=>po zA ow σ H1 (rw.mono x1) st1 (d80 x1)⟩
theorem G72(h:asI d=some i):d=.int i:=by cases d <;> first | (cases h;rfl) | (cases h;done)
theorem x_raise(x:XS lm X G E N sc cn){c:Nat}{n:Str}{y:Str}{k:Nat}{p1 p2 p3 p4:Pos}(hc:cn[c]?=some n)(hg:glob sc n=true):PS X (.Raise (some (.Call (.Name n p1) [.Constant (.str y) k p2] [] p3)) none p4) (tX X.K G E H0 zE (.rais c)):=by
 obtain⟨k1,k2,_⟩:=d60 hg;obtain⟨m1,m2⟩:=x.cls c n hc;refine PS.imp (A01 x.can x.calm (x.glb n k1) m1 m2 (g10 G21 r50) k2 rfl rfl) λD σ H q=>?_;obtain⟨zA,ow,ρ,z,rr,rw,st,ee,po⟩:=q;cases ee;exact⟨by show 1<=sizeLine;decide,λe hn=>po e H rw.ext (R71 rw.zok st) hn⟩
end
section
variable {K:Â}{H0 H H':Hp}{zE zA:Option Æ}{ow:Nat->Option Æ}{ρ:Env}{σ:L2.St}
theorem g30(e:ow0 ow i j=some a):j≠i/\ow j=some a:=by
 unfold ow0 at e;split at e
 ·cases e
 ·rename_i n;exact⟨n,e⟩
theorem s80:ow0 ow i i=none:=if_pos rfl
theorem Y40(h:j≠i):ow0 ow i j=ow j:=if_neg h
theorem C71{ρ:Env}{j:Nat}{s:S}(h:(M70 ρ)[j]?=some (some s)):ρ[j]?=some (some s)/\s≠.z:=by
 unfold M70 at h;rw[Þ] at h;obtain⟨o,e1,e2⟩:=Ê.mp h;cases o with
 |none=>cases e2
 |some t =>
  cases t with
  |z=>cases e2
  |d x=>cases e2;exact⟨e1,λh=>nomatch h⟩
  |fr x=>cases e2;exact⟨e1,λh=>nomatch h⟩
  |ks x=>cases e2;exact⟨e1,λh=>nomatch h⟩
theorem S21{j:Nat}(h:ρ[j]?=some (some (.fr xs))):(M70 ρ)[j]?=some (some (.fr xs)):=by
 unfold M70;rw[Þ,h];rfl
theorem RW.G82(r:RW K H0 none zA ow H ρ σ){i:Nat}(x:Ext zA H H')(hn:H a=none)(za:zA≠some a)(hl:H' a=some (.lst ys)) :
  RW K H0 none (some a) (ow0 ow i) H' ((M70 ρ).set i (some .z)) (σ.set i (some (.ref a)))/\a10 (hw ow (hz zA H)) (hw (ow0 ow i) (hz (some a) H')):=by
 have r':=r.mono x;have old:∀ j b,ow j=some b->b≠a:=λj b e q=>by
  obtain⟨zs,h1⟩:=r.lst j b e;rw[q,hn] at h1;cases h1
 have sm:a10 (hw ow (hz zA H)) (hw (ow0 ow i) (hz (some a) H')):=λb o e=>by
  obtain⟨e1,e2⟩:=A70 e;have hb:b≠a:=λq=>by
   have e3:H b=some o:=(m30 e1).1;rw[q,hn] at e3;cases e3
  exact g40 (c40 (m30 (x b o e1)).1 (λq=>by cases q;exact hb rfl) (l80 e1)) λj q=>e2 j (g30 q).2
 have dl:(M70 ρ).length=ρ.length:=by unfold M70;rw[È]
 refine⟨⟨by rw[À6,À6,dl];exact r.len,λj k b h1 h2=>r.inj j k b (g30 h1).2 (g30 h2).2,λj b h1 q=>?_,λj b h1=>?_,λj s e=>?_,r'.ext,.inr ⟨rfl,λb q=>?_⟩,λj b h1=>r.new j b (g30 h1).2⟩,sm⟩
 ·cases q;exact old j _ (g30 h1).2 rfl
 ·obtain⟨n,h2⟩:=g30 h1;obtain⟨xs,h3⟩:=r.own j b h2;exact⟨xs,by rw[Õ (À1 n)];exact S21 h3⟩
 ·rcases getElem?_set' e with ⟨rfl,e1,hlt⟩ | ⟨n,e1⟩
  ·cases e1;exact⟨.ref a,à (by rw[← r.len,← dl];exact hlt),s80,a,rfl,rfl⟩
  ·obtain⟨e1,nz⟩:=C71 e1;obtain⟨w,h1,h2⟩:=r.wor j s e1;refine⟨w,by rw[Õ (À1 n)];exact h1,?_⟩
   cases s with
   |d y=>exact⟨by rw[Y40 n];exact h2.1,h2.2.same sm⟩|z=>exact absurd rfl nz|ks l=>obtain⟨n0,d,q,k⟩:=h2;exact⟨by rw[Y40 n];exact n0,d,q,k.same sm⟩
   |fr xs =>
    obtain⟨b,zs,k1,rfl,k3,k4⟩:=h2;exact⟨b,zs,by rw[Y40 n];exact k1,rfl,x.at k3 (r.zne j b k1),k4.same sm⟩
 ·cases q;exact(r.young hn za).1
theorem RW.plain(r:RW K H0 zE zA ow H ρ σ)(i:Nat):RW K H0 zE zA (ow0 ow i) H (ρ.set i ((ρ[i]?.getD none).map plS)) σ:=by
 have sm:=l10 (H:=hz zA H) ow i;refine⟨by rw[À6];exact r.len,λj k b h1 h2=>r.inj j k b (g30 h1).2 (g30 h2).2,λj b h1=>r.zne j b (g30 h1).2,λj b h1=>?_,λj s e=>?_,r.ext,r.zok,λj b h1=>r.new j b (g30 h1).2⟩
 ·obtain⟨n,h2⟩:=g30 h1;obtain⟨xs,h3⟩:=r.own j b h2;exact⟨xs,by rw[Õ (À1 n)];exact h3⟩
 ·rcases getElem?_set' e with ⟨rfl,e1,hlt⟩ | ⟨n,e1⟩
  ·cases hs:ρ[j]? with
   |none=>rw[hs] at e1;cases e1
   |some o =>
    rw[hs] at e1;cases o with
    |none=>cases e1
    |some s0 =>
     cases e1;obtain⟨w,h1,h2⟩:=r.wor j s0 hs;refine⟨w,h1,?_⟩;cases s0 with
     |d y=>exact⟨s80,h2.2.same sm⟩|z=>exact⟨s80,h2.2⟩|ks l=>obtain⟨_,d,q,k⟩:=h2;exact⟨s80,d,q,k.same sm⟩
     |fr xs =>
      obtain⟨b,zs,k1,rfl,k3,k4⟩:=h2;refine⟨s80,Hd.lst (g40 (c40 k3 (r.zne j b k1)) λk q=>?_) (k4.same sm)⟩;obtain⟨q1,q2⟩:=g30 q;exact q1 (r.inj k j b q2 k1)
  ·obtain⟨w,h1,h2⟩:=r.wor j s e1;exact⟨w,h1,h2.move (Y40 n) sm λ_ _=>rfl⟩
end
theorem HdA.eraseIdx{K:Â}{H:Hp}:∀ {ds:List D}{vs:List V} (n:Nat),HdA K H ds vs->HdA K H (ds.eraseIdx n) (vs.eraseIdx n)
 |[],_,n,h=>by rw[h.e50];exact .nil
 |d::ds,_,0,h=>by
  obtain⟨x,r,rfl,h1,h2⟩:=h.b90;exact h2
 |d::ds,_,n + 1,h=>by
  obtain⟨x,r,rfl,h1,h2⟩:=h.b90;exact .cons h1 (HdA.eraseIdx n h2)
section
variable {lm:Bool}{X:Cx}{G:Gs}{E:XK}{N:List Str}{sc:À3}{cn:List Str}{H0:Hp}{zE:Option Æ}
theorem S31{α β:Type}{R:α->β->Prop}{a:α}{vs:List β}(h:Á7 R [a] vs):∃ v,vs=[v]/\R a v:=by
 cases h with
 |cons h1 h2=>cases h2;exact⟨_,rfl,h1⟩
theorem d70.a40(st:d70 zA z H)(n:zA≠some a)(h:H a=some (.lst xs)):d70 zA z (upd H a o):=by
 refine⟨?_,λp hp=>Tab.upd (st.tab p hp) h⟩;have st:=st.zat;cases zA with
 |none=>cases z <;> exact st
 |some b =>
  cases z with
  |none=>exact st
  |some p =>
   have hb:b≠a:=λq=>n (by rw[q])
   exact(L2.a40 hb).trans st
theorem f92(h:ownAt ρ i=some xs):ρ[i]?=some (some (.fr xs)):=by
 unfold ownAt at h;split at h
 ·rename_i h1;cases h;exact h1
 ·cases h
theorem g02{K:Â}{zA:Option Æ}{H0 H:Hp}{s:S}{v:V}{x:D}(h:RvS K zA H0 H s v)(e:plD s=some x):Hd K (hz zA H) x v:=h.pl.d_ e
theorem u62(x:XS lm X G E N sc cn){i:Nat}{n:Str}{e:Ex}{v:Î}{p apos cpos pos:Pos}(h1:N[i]?=some n)(h2:b50 n=true)(ns:noStar v=true)(g:a70 X G E e v)(hl:(apos.endLine == cpos.line)=true) :
  PS X (.Expr (.Call (.Attribute (.Name n p) "append" apos) [v] [] cpos) pos) (tX X.K G E H0 zE (.app i e)):=by
 unfold b50 at h2;simp only[Á,ú] at h2;have ga:Good X G E (.cons e .nil) [v]:=⟨v,[],rfl,ns,g,rfl,rfl⟩;have hs:=d10 ns [] X.env;refine PS.imp (Q70 (L21 Û9 Û1 Û0 L70 (l60 (i:=i) (by rw[x.hN];exact h1) (x.vis n (ê h1)) h2.1 h2.2) (ga.args rfl).1 rfl (by rw[hs];rfl) hl hs rfl) (s70 rfl none)) λD σ H q=>?_
 obtain⟨zA,ow,ρ,z,rr,rw,st,ee,po⟩:=q;obtain⟨xs,hx,e1⟩:=M.a30 ee;have ho:=f92 hx;obtain⟨w,k1,a,ys,k2,rfl,k3,k4⟩:=rw.wor i _ ho;refine⟨_,k1,.inl ⟨rfl,ys,SqL.of k3⟩,?_⟩;have e2:M.bind (ev G.F (.cons e .nil) ρ) (λm=>M.bind (M.of (pl m)) λx=>if bare x=true/\xs.length < most then M.ret (O.nx (ρ.set i (some (.fr (xs++[x]))))) else M.no) z=some rr∨∃ c z1,ev G.F e ρ z=some (.er c z1)/\rr=.er c z1:=by
  rcases M.bind_some e1 with ⟨l,z1,e3,e4⟩ | ⟨c,z1,e3,e4⟩
  ·obtain⟨y,hy,e5⟩:=M.a30 e4;obtain⟨s,rfl,hs⟩:=f70 hy;refine .inl ?_;show M.bind (M.bind (ev G.F e ρ) λx=>M.bind (M.of (one x)) λs=>M.bind (ev G.F .nil ρ) λy=>M.ret (s::y)) _ z=some rr;simp only[M.bind,e3,M.of,one,M.ret,ev,hy];exact e5
  ·exact .inr ⟨c,z1,e3,e4⟩
 rcases e2 with e2 | ⟨c,z1,e3,rfl⟩
 ·refine e31 rw.Q30 st e2 (po.ers rw) λl z1 e3 vs H1 x1 st1 rvs=>?_;obtain⟨y,hy,e5⟩:=M.a30 e3;obtain⟨s,rfl,hs⟩:=f70 hy;split at e5
  ·rename_i hb;cases e5;obtain⟨u,rfl,ru⟩:=S31 rvs;have r1:=rw.mono x1;have k3':=x1.at k3 (rw.zne i a k2);have k4':HdA X.K (hw ow (hz zA H1)) xs ys:=k4.same (d80 x1);have hd:=I30 r1.I61 hb.1 (g02 ru hs);refine⟨a,ys,u,rfl,rfl,k3',Ö (by rw[k4.length];exact hb.2) (f90 (É _)),?_⟩
   refine po zA ow σ _ (r1.upd k2 (k4'.append (.cons hd .nil))) ?_ (a10.trans (d80 x1) (R81 k2));exact st1.a40 (rw.zne i a k2) k3'
  ·cases e5
 ·refine⟨zA,ρ,z,.er c z1,rw.Q30,st,?_,po.er_ rw⟩;show M.bind (ev G.F e ρ) _ z=_;simp only[M.bind,e3]
theorem g12(x:XS lm X G E N sc cn){i f:Nat}{as:Ex}{y:Str}{v:Î}{px pos:Pos}(hi:N[i]?=some y)(hl:y10 sc y=true)(g:a70 X G E (.call f as) v)(hv:O10 v=true) :
  PS X (.Assign [.Name y px] v pos) (tX X.K G E H0 zE (.newz i f as)):=by
 have L:=x.loc;refine PS.imp (K30 (i:=i) (by rw[x.hN];exact x.nd) (by rw[x.hN];exact hi) (L.lc y hl) g.pe (s70 hv _) (L.fn y hl)) λD σ H q=>?_
 obtain⟨zA,ow,ρ,z,rr,rw,st,ee,po⟩:=q;refine j50 rw.Q30 st ee (po.ers rw) λl z1 e1=>?_;have e2:m51 zE.isNone ρ i l=some rr:=e1;unfold m51 at e2;split at e2
 ·split at e2
  ·rename_i m b hz';cases e2;have zn:zE=none:=by
    cases zE with
    |none=>rfl|some _=>cases hz'
   subst zn;refine⟨_,rfl,λu H1 x1 st1 rv=>?_⟩;obtain⟨a,ys,rfl,k1,k2,k3,k4⟩:=rv;obtain⟨v1,v2,rfl,h3,h4⟩:=k4.two;cases h3.i40;cases h4.bl_;obtain⟨r1,sm⟩:=rw.G82 (i:=i) x1 k1 k2 k3;exact po (some a) _ _ H1 r1 ⟨k3,st1.tab⟩ sm
  ·cases e2
 ·cases e2
theorem g22(x:XS lm X G E N sc cn){i:Nat}{n:Str}{e:Ex}{v:Î}{c:Nat}{p q tp pos:Pos}(h1:N[i]?=some n)(h2:b50 n=true)(g:a70 X G E e v) :
  PS X (.Assign [.Subscript (.Name n p) (.Constant (.int 0) c q) tp] v pos) (tX X.K G E H0 zE (.zset i e)):=by
 unfold b50 at h2;simp only[Á,ú] at h2;refine PS.imp (G31 g.pe (X81 (l60 (i:=i) (by rw[x.hN];exact h1) (x.vis n (ê h1)) h2.1 h2.2) g01 set_list (by intro u;rfl)) (show Í9 v (some (.Subscript (.Name n p) (.Constant (.int 0) c q) tp)) pos.line X.env=pure false from O20 rfl) (by cases v <;> rfl)) λD σ H q=>?_
 obtain⟨zA,ow,ρ,z,rr,rw,st,ee,po⟩:=q;refine j50 rw.Q30 st ee (po.ers rw) λl z1 e1=>?_;obtain⟨y,hy,e2⟩:=M.a30 e1;obtain⟨dy,hy1,hy2⟩:=Ï.mp hy;obtain⟨s,rfl,hs⟩:=f70 hy1;refine⟨s,rfl,λu H1 x1 st1 rv=>?_⟩;have e3:m61 ρ y ρ[i]? z1=some rr:=e2;unfold m61 at e3;split at e3
 ·rename_i p' hsl;cases e3;have r1:=rw.mono x1;obtain⟨w,k1,k2,a,rfl,rfl⟩:=r1.wor i .z hsl;have hu:u=.int y:=by
   have:=g02 rv hs;cases dy <;> first | (cases hy2;exact this.i40) | (cases hy2;done)
  subst hu;have st':H1 a=some (.lst [.int p'.1,.bl p'.2]):=st1.zat;refine⟨_,k1,a,[.int p'.1,.bl p'.2],0,0,rfl,rfl,st',rfl,?_⟩;have x2:Ext (some a) H1 (upd H1 a (.lst [.int y,.bl p'.2])):=by
   refine⟨λb o h=>?_,λb ps h=>⟨ps,by rw[a40 (λz=>by rw[z,st'] at h;cases h)];exact h⟩⟩
   obtain⟨h3,h4⟩:=m30 h;exact c40 (by rw[a40 (λz=>h4 (by rw[z]))];exact h3) h4 (l80 h)
  exact po (some a) ow σ _ (r1.mono x2) ⟨b10,λp hp=>Tab.upd (st1.tab p hp) st'⟩ (a10.trans (d80 x1.same) (d80 x2.same))
 ·cases e3
theorem u72(x:XS lm X G E N sc cn)(g:a70 X G E c ce)(hn:∀ t a b p,ce≠.IfExp t a b p)(hb:PSs X body (tX X.K G E H0 zE b)):PS X (.While ce body [] pos) (tX X.K G E H0 zE (.whl c b)):=by
 refine PS.imp (w71 x.own (g.pt hn) hb) λD σ H q=>?_;obtain⟨zA,ow,ρ,z,rr,rw,st,ee,po⟩:=q;refine⟨λm σ H=>∃ zA ow ρ z r,RW X.K H0 zE zA ow H ρ σ/\d70 zA z H/\V71 (ev G.F c) (ex G.F zE.isNone b) m ρ z=some r/\q30 X.K G E H0 zE (hw ow (hz zA H)) D r,⟨q12,zA,ow,ρ,z,rr,rw,st,ee,po⟩,?_⟩;rintro m σ H ⟨zA,ow,ρ,z,rr,rw,st,ee,po⟩;cases m with
 |zero=>cases ee
 |succ m =>
  refine N70 rw.Q30 st ee (po.ers rw) λk z1 e1 H1 x1 st1=>?_;have r1:=rw.mono x1;have sm:a10 (hw ow (hz zA H)) (hw ow (hz zA H1)):=d80 x1;cases k with
  |false =>
   cases e1;exact po zA ow σ H1 r1 st1 sm
  |true =>
   rw[if_pos rfl];have e2:M.bind (ex G.F zE.isNone b ρ) (λo=>match o with | .nx ρ=>V71 (ev G.F c) (ex G.F zE.isNone b) m ρ | .rt s=>M.ret (.rt s)) z1=some rr:=e1
   refine⟨λσ' H'=>∃ zA ow ρ z r,RW X.K H0 zE zA ow H' ρ σ'/\d70 zA z H'/\V71 (ev G.F c) (ex G.F zE.isNone b) m ρ z=some r/\q30 X.K G E H0 zE (hw ow (hz zA H')) D r,λσ' H' h=>⟨m,Ù5 m,h⟩,?_⟩;rcases M.bind_some e2 with ⟨o,z2,e3,e4⟩ | ⟨k,z2,e3,e4⟩
   ·refine⟨zA,ow,ρ,z1,_,r1,st1,e3,?_⟩;cases o with
    |nx ρ1=>exact λzA' ow' σ' H' rw' st' sm'=>⟨zA',ow',ρ1,z2,rr,rw',st',e4,po.mono (a10.trans sm sm')⟩|rt s=>cases e4;exact po
   ·subst e4;exact⟨zA,ow,ρ,z1,_,r1,st1,e3,po⟩
end
section
variable {K:Â}{H0 H H':Hp}{zE zA:Option Æ}{ow:Nat->Option Æ}{ρ:Env}{σ:L2.St}
theorem RW.G92(r:RW K H0 zE zA ow H ρ σ):RW K H0 zE zA (ow0 ow i) H (ρ.set i none) (σ.set i (some v)):=by
 have sub:∀ j a,ow0 ow i j=some a->j≠i/\ow j=some a:=λj a e=>by
  unfold ow0 at e;split at e
  ·cases e
  ·rename_i n;exact⟨n,e⟩
 refine⟨by rw[À6,À6];exact r.len,λj k a h1 h2=>r.inj j k a (sub j a h1).2 (sub k a h2).2,λj a h1=>r.zne j a (sub j a h1).2,λj a h1=>?_,λj s e=>?_,r.ext,r.zok,λj a h1=>r.new j a (sub j a h1).2⟩
 ·obtain⟨n,h2⟩:=sub j a h1;obtain⟨xs,h3⟩:=r.own j a h2;exact⟨xs,by rw[Õ (À1 n)];exact h3⟩
 ·rcases getElem?_set' e with ⟨rfl,e1,hlt⟩ | ⟨n,e1⟩
  ·cases e1
  ·obtain⟨w,h1,h2⟩:=r.wor j s e1;exact⟨w,by rw[Õ (À1 n)];exact h1,h2.move (by unfold ow0;exact if_neg n) (l10 _ _) λ_ _=>rfl⟩
end
section
variable {K:Â}
theorem p71{H:Hp}:∀ {xs:List D}{ys:List V},xs.length=ys.length->(∀ (i:Nat) (d:D) (v:V),xs[i]?=some d->ys[i]?=some v->Hd K H d v)->HdA K H xs ys
 |[],[],_,_=>.nil|[],_::_,h,_=>by simp at h|_::_,[],h,_=>by simp at h|x::xs,y::ys,h,g=>.cons (g 0 x y rfl rfl) (p71 (by simpa using h) λi d v h1 h2=>g (i + 1) d v (by simpa using h1) (by simpa using h2))
theorem Y50{H:Hp}:∀ {l:List Int},HdA K H (l.map D.int) (l.map V.int)
 |[]=>.nil|_::_=>.cons Hd.int Y50
theorem S41{zA:Option Æ}{H Hb H':Hp}{d:Æ}(hd:H d=none)(x:Ext zA (upd H d (.dK [])) Hb)(old:∀ b u,b≠d->Hb b=some u->H' b=some u):Ext zA H H':=by
 refine⟨λb o e=>?_,λb ps e=>?_⟩
 ·obtain⟨e1,e2⟩:=m30 e;have n:=b00 e1 hd;exact c40 (old b o n (x.at (by rw[a40 n];exact e1) e2 (l80 e))) e2 (l80 e)
 ·have n:=b00 e hd;obtain⟨qs,h⟩:=x.tbl b ps (by rw[a40 n];exact e)
  exact⟨qs,old b _ n h⟩
theorem J01{zA:Option Æ}{z:Z}{Hb H':Hp}{d:Æ}{kvs:List (Key × V)}(st:d70 zA z Hb)(hd:Hb d=some (.dK kvs))(old:∀ b u,b≠d->Hb b=some u->H' b=some u):d70 zA z H':=by
 have ne:∀ {b:Æ}{u:HO},Hb b=some u->(∀ l,u≠.dK l)->H' b=some u:=λ{b u} e n=>old b u (λq=>by rw[q,hd] at e;cases e;exact n _ rfl) e
 refine⟨?_,λp hp=>?_⟩
 ·have:=st.zat;cases zA with
  |none =>
   cases z with
   |none=>trivial|some pr=>exact this.elim
  |some a =>
   cases z with
   |none=>exact this.elim|some pr=>exact ne (show Hb a=some (.lst [.int pr.1,.bl pr.2]) from this) λ_ h=>nomatch h
 ·obtain⟨ps,e,tr,k⟩:=st.tab p hp;refine⟨ps,ne e (λ_ h=>nomatch h),tr,λpos c h=>?_⟩;obtain⟨c',e1,e2⟩:=k pos c h;exact⟨c',e1,ne e2 (λ_ h=>nomatch h)⟩
theorem GI.same{Hb H H':Hp}{d:Æ}{ts:List GT}(g:GI Hb d ts H)(s:a10 H H'):GI Hb d ts H':=⟨s _ _ g.dic,⟨g.ok.nd,λt ht=>s _ _ (g.ok.at_ t ht)⟩,g.new,λb u n e=>s _ _ (g.old b u n e)⟩
end
theorem p81:ì "tuple"=some (.type "tuple"):=by decide +kernel
theorem O30:∀ (l:List Int) (gs:List (Int × List Int)) (p:Nat) (m:Int),m21 gs p (l++[m])=d61 (m21 gs p l) m ((p + l.length:Nat):Int)
 |[],_,_,_=>rfl
 |x::r,gs,p,m=>by
  show m21 (d61 gs x p) (p + 1) (r++[m])=d61 (m21 (d61 gs x p) (p + 1) r) m _;rw[O30 r,ß,show p + 1 + r.length=p + (r.length + 1) by omega]
theorem ints_map:∀ {l:List D}{ns:List Int},j40 l=some ns->l=ns.map D.int
 |[],_,h=>by cases h;rfl
 |.int i::r,ns,h=>by
  obtain⟨ms,h1,rfl⟩:=Ê.mp (show(j40 r).map (i::·)=some ns from h);rw[ints_map h1];rfl
 |.bl _::_,_,h=>by cases h
 |.non::_,_,h=>by cases h
 |.str _::_,_,h=>by cases h
 |.tup _::_,_,h=>by cases h
 |.lst _::_,_,h=>by cases h
theorem S51{ds:List D}{s:S}(h:O41 ds=some s):∃ ns:List Int,ds=[.lst (ns.map D.int)]/\ns.length < 1000/\s=.fr (m31 ns):=by
 unfold O41 at h;split at h
 ·split at h
  ·rename_i ns hn;split at h
   ·rename_i hl;cases h;exact⟨ns,by rw[ints_map hn],hl,rfl⟩
   ·cases h
  ·cases h
 ·cases h
theorem p91:∀ {l:List Int}{t n:Nat}{m:Int},l[t]?=some m->(u40 (l.map D.int) n)[t]?=some (.tup [.int ((n + t:Nat):Int),.int m])
 |[],_,_,_,h=>by simp at h|x::r,0,n,m,h=>by cases h;rfl
 |x::r,t + 1,n,m,h=>by
  show(u40 (r.map D.int) (n + 1))[t]?=_;rw[p91 (l:=r) (t:=t) (by simpa using h),show n + 1 + t=n + (t + 1) by omega]
theorem q01:∀ (ts:List GT) (m p:Int) (q:Æ),(M40 ts m p q).length<=ts.length + 1
 |[],_,_,_=>É _
 |t::r,m,p,q=>by
  unfold M40;split
  ·exact le_succ _
  ·rw[ß,ß];exact É7 (q01 r m p q)
theorem J11{c:Nat}:∀ {ts:List GT}{m p:Int}{q:Æ},(∀ t∈ts,t.2.1.length<=c)->∀ t∈M40 ts m p q,t.2.1.length<=c + 1
 |[],m,p,q,_,t,ht=>by
  have e:t=(m,[p],q):=by simpa [M40] using ht
  subst e;exact Nat.le_add_left 1 c
 |u::r,m,p,q,h,t,ht=>by
  unfold M40 at ht;split at ht
  ·rcases å.mp ht with rfl | ht
   ·show(u.2.1++[p]).length<=_;rw[À5];exact É7 (h u Ë)
   ·exact Ö3 (h t (Í _ ht))
  ·rcases å.mp ht with rfl | ht
   ·exact Ö3 (h _ Ë)
   ·exact J11 (λt ht=>h t (Í _ ht)) t ht
section
variable {lm:Bool}{X:Cx}{G:Gs}{E:XK}{N:List Str}{sc:À3}{cn:List Str}{H0:Hp}{zE:Option Æ}
theorem u82(x:XS lm X G E N sc cn){i j k:Nat}{y a b g:Str}{csc:À3}{src:Ex}{se:Î}{p1 p2 p3 p4 p5 p6 p7 p8 p9 q1 q2 q3 q4 q5 q6 q7 q8 q9 r1 r2 r3 r4 r5 r6 r7 r8 r9:Pos}{ek:Nat}
  (hi:N[i]?=some y) (hj:N[j]?=some a) (hk:N[k]?=some b) (ly:y10 sc y=true) (la:y10 sc a=true) (lb:y10 sc b=true) (ny:b50 y=true) (na:b50 a=true) (nb:b50 b=true) (ng:b50 g=true)
  (hij:i≠j) (hik:i≠k) (hjk:j≠k) (he:glob sc "enumerate"=true) (ht:glob csc "tuple"=true) (ge:Good X G E (.cons src .nil) [se]) (cc:R41 csc sc N [g] [])
  (l1:(q1.endLine == q2.line)=true) (l2:(q3.endLine == q4.line)=true) (l3:(q5.endLine == q6.line)=true) :
  PSs X [.Assign [.Name y p1] (.Dict [] [] p2) p3,.For (.Tuple [.Name a p4,.Name b p5] ek p6) (.Call (.Name "enumerate" p7) [se] [] p8) [.Expr (.Call (.Attribute (.Call (.Attribute (.Name y p9) "setdefault" q1) [.Name b q7,.List [] q8] [] q2) "append" q3) [.Name a q9] [] q4) r1] [] r2,
   .Return (some (.ListComp (.Call (.Name "tuple" r3) [.Name g r4] [] r5) [⟨.Name g r6,.Call (.Attribute (.Name y r7) "values" q5) [] [] q6,[],0⟩] csc r8)) r9]
   (tX X.K G E H0 zE (.grp i j k src)):=by
 unfold b50 at ny na nb ng;simp only[Á,ú] at ny na nb ng;have Lc:=x.loc;obtain⟨k1,k2,k3⟩:=d60 ht;have hp:g70 N (y10 sc) (.tup (.cons (.v j) (.cons (.v k) .nil))) (.Tuple [.Name a p4,.Name b p5] ek p6)=true:=by
  simp[g70,X30,noStar,hj,hk,la,lb]
 refine PSs.imp (E70 (K30 (by rw[x.hN];exact x.nd) (by rw[x.hN];exact hi) (Lc.lc y ly) k11 rfl (Lc.fn y ly))
  (E70 (g71 x.own x.calm (I00 x.toXI rfl rfl he rfl ge) (e51 x.loc hp)
   (g11 (Q70 (L21 Û9 Û1 Û0 L70
    (L21 Ü0 Ö1 PySem.F.type_dict_setdefault N51 (l60 (i:=i) (by rw[x.hN];exact hi) (x.vis y (ê hi)) ny.1 ny.2)
     (g10 (l60 (i:=k) (by rw[x.hN];exact hk) (x.vis b (ê hk)) nb.1 nb.2) (g10 (G61 r50) r50)) rfl rfl l1 rfl rfl)
    (g10 (l60 (i:=j) (by rw[x.hN];exact hj) (x.vis a (ê hj)) na.1 na.2) r50) rfl rfl l2 rfl rfl) (s70 rfl none))) (λ_=>rfl))
  (g11 (g21 (i81 (te:=y42 X.K 0) x.calm (T30 x.toXI cc) (N71 (l60 (i:=i) (by rw[x.hN];exact hi) (x.vis y (ê hi)) ny.1 ny.2) l3)
   (λcl C s H fp=>g31 (i:=0) (x:=g) (by simp[d30]) rfl ((I20 x.toXI cc cl C s H fp).lc g (by simp)) ((I20 x.toXI cc cl C s H fp).fn g (by simp)))
   (λcl C s H fp=>i71)
   (λcl C s H fp=>L20 (T:="tuple") r60 ((I10 x.toXI cc cl C s H fp).glb _ k1) (x.blt _ (-0)) p81 (g10 (l60 (i:=0) (x:=g) (by simp[d30]) ((I10 x.toXI cc cl C s H fp).vis g (by simp)) ng.1 ng.2) r50))
   (λ_=>rfl)))))) λD σ H q=>?_
 obtain⟨zA,ow,ρ,z,rr,rw,st,ee,po⟩:=q;have e0:(if i < ρ.length/\j < ρ.length/\k < ρ.length then M.bind (ev G.F (.cons src .nil) (ρ.set i none)) (λl=>M.bind (M.of ((plA l).bind O41)) λs=>M.ret (.rt s)) else M.no) z=some rr:=ee;by_cases il:i < ρ.length/\j < ρ.length/\k < ρ.length
 rotate_left
 ·rw[if_neg il] at e0;cases e0
 rw[if_pos il] at e0;refine λd hd=>?_;have s0:a10 H (upd H d (.dK [])):=a10.new _ hd;have rw1:=(rw.mono (Ext.of s0)).G92 (i:=i) (v:=.ref d);have st1:=st.same s0;have dz:zA≠some d:=st.D40 hd;have hil:i < σ.length:=by rw[← rw.len];exact il.1
 have hjl:j < σ.length:=by rw[← rw.len];exact il.2.1
 have hkl:k < σ.length:=by rw[← rw.len];exact il.2.2
 rcases M.bind_some e0 with ⟨l,z1,e1,e2⟩ | ⟨c,z1,e1,e2⟩
 rotate_left
 ·subst e2;exact⟨zA,_,z,_,rw1.Q30,st1,e1,po.er_ rw1⟩
 obtain⟨s,hs,e3⟩:=M.a30 e2;cases e3;obtain⟨ds,h1,h2⟩:=Ï.mp hs;obtain⟨ns,rfl,nl,rfl⟩:=S51 h2;refine⟨zA,_,z,_,rw1.Q30,st1,e1,u40 (ns.map L2.D.int) 0,by rw[h1];rfl,λJ Hb x1 stb IT=>?_⟩
 have hbd:Hb d=some (.dK []):=x1.at b10 dz;have hzd:hz zA Hb d=some (.dK []):=c40 hbd dz;have IB:=IT (λy=>∃ n,y=.int n) (hide d (hz zA Hb)) (d50 _ _) (λa' ys h=>by
   rcases h with (h | ⟨o,h⟩) | h
   ·exact .inl (.inl (l00 h λz=>by rw[z,hzd] at h;cases h))
   ·exact .inl (.inr ⟨o,l00 h λz=>by rw[z,hzd] at h;cases h⟩)
   ·exact .inr h) (λd' v ⟨n,e⟩ h=>by subst e;rw[h.i40];exact Hd.int) (λds' e' d' hd'=>by
   rw[h1] at e';cases e';have e:d'=.lst (ns.map L2.D.int):=by simpa using hd'
   subst e;exact λy hy=>by obtain⟨n,_,e⟩:=Ð.mp hy;exact⟨n,e.symm⟩) (λa' ys h _=>by
   rcases h with (h | ⟨o,h⟩) | h
   ·exact .inl (.inl (l00 h λz=>by rw[z,hzd] at h;cases h))
   ·exact .inl (.inr ⟨o,l00 h λz=>by rw[z,hzd] at h;cases h⟩)
   ·exact .inr h)
 refine⟨λt m σ' H'=>m=ns.length - t/\t<=ns.length/\σ'[i]?=some (some (.ref d))/\σ'.length=σ.length/\∃ ts,GI Hb d ts H'/\gsT ts=m21 [] 0 (ns.take t)/\ts.length<=t/\∀ u∈ts,u.2.1.length<=t,
  ⟨_,rfl,Å2 _,à hil,À6,[],⟨hbd,⟨nodup_nil,λ_ h=>nomatch h⟩,λ_ h=>(nomatch h),λb u n e=>e⟩,rfl,É _,λ_ h=>nomatch h⟩,?_⟩
 rintro t m σ' H' ⟨rfl,tn,hs1,hs2,ts,gi,gs,tl,tb⟩;have sB:a10 (hide d (hz zA Hb)) (hz zA H'):=λb o e=>by
  have n:b≠d:=λz=>by rw[z] at e;unfold hide at e;rw[if_pos rfl] at e;cases e
  have e':=d50 _ _ b o e;obtain⟨e1,e2⟩:=m30 e';exact c40 (gi.old b o n e1) e2 (l80 e')
 have stH:d70 zA z1 H':=J01 stb hbd gi.old;have big:1000<=sizeLine:=by rw[À8];decide
 by_cases e:t=ns.length
 ·subst e;refine .inl ⟨by have:=IB.stop H' (a10.trans sB (a00 zA H'));rw[s60,È] at this;exact this,?_⟩
  refine⟨d,kvG ts,hs1,gi.dic,λo H2 hk2 hd2=>?_⟩;have nd:∀ u∈ts,u.2.2≠d:=λu hu q=>by have:=gi.ok.at_ u hu;rw[q,gi.dic] at this;cases this
  refine N91 (by show 0 < 1;decide) ∅ ⟨hd2,⟨gi.ok.nd,λu hu=>hk2 _ _ (nd u hu) (gi.ok.at_ u hu)⟩,λb u n e=>hk2 b u n (gi.old b u n e),rfl,λ_ _ h=>nomatch h⟩ λys H3 p ge3 hp3=>?_
  have x3:Ext zA H H3:=S41 hd x1 ge3.old;have st3:d70 zA z1 H3:=J01 stb hbd ge3.old;have gd:m31 ns=ts.map λu=>.tup (u.2.1.map L2.D.int):=by
   unfold m31;rw[Ò5] at gs;rw[← gs];unfold gsT;rw[æ];rfl
  have hda:HdA X.K (hz zA H3) (m31 ns) ys:=by
   rw[gd];refine p71 (by rw[È,ge3.len]) λn d' v q1 q2=>?_
   obtain⟨a',u,rfl,q3,q4⟩:=ge3.tup n v q2;rw[Þ,q3] at q1;cases q1;exact Hd.tup (st3.v91 (SqT.of q4)) Y50
  have x4:=x3.trans (Ext.of (a10.new (.lst ys) hp3));exact po _ _ (λh=>nomatch h) (Y30 rw.ext rw.zok x4) (R71 rw.zok (st3.same (a10.new _ hp3))) (rw.out (λh=>nomatch h) x4 ((p00 st3 hda hp3).from x3))
 ·have hlt:t < ns.length:=Nat.lt_of_le_of_ne tn e;refine .inr ⟨IB.go t H' (a10.trans sB (a00 zA H')) (by rw[s60,È];exact hlt),λσ2 H2=>σ2[i]?=some (some (.ref d))/\σ2.length=σ.length/\∃ ts,GI Hb d ts H2/\gsT ts=m21 [] 0 (ns.take (t + 1))/\ts.length<=t + 1/\∀ u∈ts,u.2.1.length<=t + 1,λσ2 H2 q=>⟨ns.length - (t + 1),by omega,rfl,hlt,q⟩,λx' H'' y'=>?_⟩
  obtain⟨s1,hdx⟩:=IB.yld t H' x' H'' zA z1 _ sB stH y' (p91 (Ú hlt));obtain⟨T,us,rfl,m1,m2⟩:=(hdx (hz zA H'') (a10.trans sB (h50 s1)) λ_ _ q=>q).t90;obtain⟨u1,r,rfl,w1,w2⟩:=m2.b90;obtain⟨u2,rfl,w3⟩:=w2.one;have f1:=w1.i40;have f2:=w3.i40;subst f1 f2;refine⟨T,_,rfl,(a00 zA H'').sqT m1,rfl,_,_,rfl,_,_,rfl,rfl,?_⟩;have jl:j < σ'.length:=by rw[hs2];exact hjl
  have kl:k < σ'.length:=by rw[hs2];exact hkl
  refine N81 (GI.same gi s1) (by rw[Õ (À1 hik),Õ (À1 hij)];exact hs1) (by rw[Õ (À1 hjk),à jl]) (by rw[à (by rw[À6];exact kl)]) ∅ (λu hu=>by have:=tb u hu;omega) λq H3 g3=>?_
  refine⟨by rw[Õ (À1 hik),Õ (À1 hij)];exact hs1,by rw[À6,À6];exact hs2,_,g3,?_,Ô (q01 _ _ _ _) (É7 tl),J11 tb⟩
  rw[H51,gs,List.take_succ_eq_append_getElem hlt,O30,Ã7,Ò9 tn]
def H02:(s:Ã8)->Option {u:Str × Pos × Pos × Pos // s=.Assign [.Name u.1 u.2.1] (.Dict [] [] u.2.2.1) u.2.2.2}
 |.Assign [.Name y p] (.Dict [] [] q) r=>some ⟨(y,p,q,r),rfl⟩|_=>none
def H12:(s:Ã8)->Option {u:Str × Pos × Str × Pos × Nat × Pos × Î × Ã8 × Pos // s=.For (.Tuple [.Name u.1 u.2.1,.Name u.2.2.1 u.2.2.2.1] u.2.2.2.2.1 u.2.2.2.2.2.1) u.2.2.2.2.2.2.1 [u.2.2.2.2.2.2.2.1] [] u.2.2.2.2.2.2.2.2}
 |.For (.Tuple [.Name a p,.Name b q] k r) it [s] [] f=>some ⟨(a,p,b,q,k,r,it,s,f),rfl⟩|_=>none
def z42:(e:Î)->Option {u:Str × Pos × Î × Pos // e=.Call (.Name u.1 u.2.1) [u.2.2.1] [] u.2.2.2}
 |.Call (.Name n p) [v] [] q=>some ⟨(n,p,v,q),rfl⟩|_=>none
def H22:(s:Ã8)->Option {u:Î × Str × Pos × Str × Pos × Pos × Pos // s=.Expr (.Call (.Attribute u.1 u.2.1 u.2.2.1) [.Name u.2.2.2.1 u.2.2.2.2.1] [] u.2.2.2.2.2.1) u.2.2.2.2.2.2}
 |.Expr (.Call (.Attribute o n p) [.Name a q] [] r) f=>some ⟨(o,n,p,a,q,r,f),rfl⟩|_=>none
def H32:(e:Î)->Option {u:Str × Pos × Str × Pos × Str × Pos × Pos × Pos // e=.Call (.Attribute (.Name u.1 u.2.1) u.2.2.1 u.2.2.2.1) [.Name u.2.2.2.2.1 u.2.2.2.2.2.1,.List [] u.2.2.2.2.2.2.1] [] u.2.2.2.2.2.2.2}
 |.Call (.Attribute (.Name y p) n q) [.Name b r,.List [] f] [] g=>some ⟨(y,p,n,q,b,r,f,g),rfl⟩|_=>none
def H42:(s:Ã8)->Option {u:Î × Str × Pos × Î × À3 × Pos × Pos // s=.Return (some (.ListComp u.1 [⟨.Name u.2.1 u.2.2.1,u.2.2.2.1,[],0⟩] u.2.2.2.2.1 u.2.2.2.2.2.1)) u.2.2.2.2.2.2}
 |.Return (some (.ListComp e [⟨.Name g p,it,[],0⟩] c q)) r=>some ⟨(e,g,p,it,c,q,r),rfl⟩|_=>none
def H52:(e:Î)->Option {u:Str × Pos × Str × Pos × Pos // e=.Call (.Attribute (.Name u.1 u.2.1) u.2.2.1 u.2.2.2.1) [] [] u.2.2.2.2}
 |.Call (.Attribute (.Name y p) n q) [] [] r=>some ⟨(y,p,n,q,r),rfl⟩|_=>none
def H62:(e:Î)->Option {u:Str × Pos // e=.Name u.1 u.2}
 |.Name y p=>some ⟨(y,p),rfl⟩|_=>none
def H72:(ss:List Ã8)->Option {u:Ã8 × Ã8 × Ã8 // ss=[u.1,u.2.1,u.2.2]}
 |[a,b,c]=>some ⟨(a,b,c),rfl⟩|_=>none
def z52(lm:Bool)(fns:List (Str × List Str))(nums:List (Str × Int))(sc:À3)(N:List Str)(i j k:Nat)(src:Ex)(ss:List Ã8):Bool:=opt (H72 ss) λt=>opt (H02 t.1.1) λd=>opt (H12 t.1.2.1) λf=>opt (z42 f.1.2.2.2.2.2.2.1) λn=>opt (H22 f.1.2.2.2.2.2.2.2.1) λb=>opt (H32 b.1.1) λs=>opt (H42 t.1.2.2) λr=>opt (H52 r.1.2.2.2.1) λv=>opt (z42 r.1.1) λe=>opt (H62 e.1.2.2.1) λg =>
 N[i]? == some d.1.1&&N[j]? == some f.1.1&&N[k]? == some f.1.2.2.1&&y10 sc d.1.1&&y10 sc f.1.1&&y10 sc f.1.2.2.1&&b50 d.1.1&&b50 f.1.1&&b50 f.1.2.2.1&&b50 g.1.1&&i != j&&i != k&&j != k&&glob sc "enumerate"&&glob r.1.2.2.2.2.1 "tuple"&&mt lm fns nums (.cons src .nil) sc N [n.1.2.2.1]&&D60 r.1.2.2.2.2.1 sc N [g.1.1] [] &&
 s.1.2.2.2.1.endLine == s.1.2.2.2.2.2.2.2.line&&b.1.2.2.1.endLine == b.1.2.2.2.2.2.1.line&&v.1.2.2.2.1.endLine == v.1.2.2.2.2.line&&s.1.1 == d.1.1&&v.1.1 == d.1.1&&b.1.2.2.2.1 == f.1.1&&s.1.2.2.2.2.1 == f.1.2.2.1&&r.1.2.1 == g.1.1&&n.1.1 == ("enumerate":Str)&&s.1.2.2.1 == ("setdefault":Str)&&b.1.2.1 == ("append":Str)&&e.1.1 == ("tuple":Str)&&v.1.2.2.1 == ("values":Str)
theorem u92(x:XS lm X G E N sc cn){i j k:Nat}{src:Ex}{ss:List Ã8}(h:z52 lm G.fns G.nums sc N i j k src ss=true):PSs X ss (tX X.K G E H0 zE (.grp i j k src)):=by
 obtain⟨⟨⟨s1,s2,s3⟩,rfl⟩,-,h⟩:=a50 h;dsimp only at h;obtain⟨⟨⟨y,p1,p2,p3⟩,rfl⟩,-,h⟩:=a50 h;obtain⟨⟨⟨a,p4,b,p5,ek,p6,it,st,r2⟩,rfl⟩,-,h⟩:=a50 h;dsimp only at h;obtain⟨⟨⟨en,p7,se,p8⟩,rfl⟩,-,h⟩:=a50 h;obtain⟨⟨⟨o,ap,q3,a2,q9,q4,r1⟩,rfl⟩,-,h⟩:=a50 h;dsimp only at h;obtain⟨⟨⟨y2,p9,sd,q1,b2,q7,q8,q2⟩,rfl⟩,-,h⟩:=a50 h;obtain⟨⟨⟨el,g2,r6,iv,csc,r8,r9⟩,rfl⟩,-,h⟩:=a50 h;dsimp only at h;obtain⟨⟨⟨y3,r7,va,q5,q6⟩,rfl⟩,-,h⟩:=a50 h;obtain⟨⟨⟨tu,r3,ev',r5⟩,rfl⟩,-,h⟩:=a50 h;dsimp only at h;obtain⟨⟨⟨g,r4⟩,rfl⟩,-,h⟩:=a50 h;dsimp only at h;rw[Á] at h;obtain⟨h,h30⟩:=h;rw[Á] at h;obtain⟨h,h29⟩:=h;rw[Á] at h;obtain⟨h,h28⟩:=h;rw[Á] at h;obtain⟨h,h27⟩:=h;rw[Á] at h;obtain⟨h,h26⟩:=h;rw[Á] at h;obtain⟨h,h25⟩:=h;rw[Á] at h;obtain⟨h,h24⟩:=h;rw[Á] at h;obtain⟨h,h23⟩:=h;rw[Á] at h;obtain⟨h,h22⟩:=h;rw[Á] at h;obtain⟨h,h21⟩:=h;rw[Á] at h;obtain⟨h,h20⟩:=h;rw[Á] at h;obtain⟨h,h19⟩:=h;rw[Á] at h;obtain⟨h,h18⟩:=h;rw[Á] at h;obtain⟨h,h17⟩:=h;rw[Á] at h;obtain⟨h,h16⟩:=h;rw[Á] at h;obtain⟨h,h15⟩:=h;rw[Á] at h;obtain⟨h,h14⟩:=h;rw[Á] at h;obtain⟨h,h13⟩:=h;rw[Á] at h;obtain⟨h,h12⟩:=h;rw[Á] at h;obtain⟨h,h11⟩:=h;rw[Á] at h;obtain⟨h,h10⟩:=h;rw[Á] at h;obtain⟨h,h9⟩:=h;rw[Á] at h;obtain⟨h,h8⟩:=h;rw[Á] at h;obtain⟨h,h7⟩:=h;rw[Á] at h;obtain⟨h,h6⟩:=h;rw[Á] at h;obtain⟨h,h5⟩:=h;rw[Á] at h;obtain⟨h,h4⟩:=h;rw[Á] at h;obtain⟨h,h3⟩:=h;rw[Á] at h;obtain⟨h1,h2⟩:=h;rw[beq_iff_eq] at h1 h2 h3;rw[bne_iff_ne] at h11 h12 h13;obtain rfl:y=y2:=(eq_of_beq h21).symm;obtain rfl:y=y3:=(eq_of_beq h22).symm;obtain rfl:a=a2:=(eq_of_beq h23).symm;obtain rfl:b=b2:=(eq_of_beq h24).symm;obtain rfl:g=g2:=(eq_of_beq h25).symm;obtain rfl:en="enumerate":=eq_of_beq h26;obtain rfl:sd="setdefault":=eq_of_beq h27;obtain rfl:ap="append":=eq_of_beq h28;obtain rfl:tu="tuple":=eq_of_beq h29;obtain rfl:va="values":=eq_of_beq h30;exact u82 x h1 h2 h3 h4 h5 h6 h7 h8 h9 h10 h11 h12 h13 h14 h15 (sound G (.cons src .nil) x.toXI h16) (R51 h17) h18 h19 h20
def v02(K:Â)(i:Nat):TI:=λσ H R=>∃ a,σ[i]?=some (some (.ref a))/\((∃ ys,SqT K H a ys)/\R (Itt K a) H∨(∃ ys,SqL K H a ys)/\R (Itl K a) H)
theorem g32(x:XI lm X G E N sc){tg:Î}{i:Nat}{n:Str}{pos:Pos}(h1:N[i]?=some n)(h2:b50 n=true):PI X tg (.Name n pos) (v02 X.K i):=by
 unfold b50 at h2;simp only[Á,ú] at h2;have hv:PE X (.Name n pos) (G11 i):=l60 (i:=i) (by rw[x.hN];exact h1) (x.vis n (ê h1)) h2.1 h2.2
 intro pins s σ H R I q;obtain⟨a,k,q | q⟩:=q
 ·exact G41 hv pins s σ H R I ⟨_,k,a,rfl,q.1,q.2⟩
 ·exact Q80 hv pins s σ H R I ⟨_,k,a,rfl,q.1,q.2⟩
def fBody(F:FT)(tp:Bool)(p:Pat)(b:Sm):D->Env->M O:=λx ρ=>M.bind (M.of (e40 p x ρ)) λρ=>ex F tp b ρ
theorem A90:∀ {l:List D}{d:D},q10 l=true->d∈l->bare d=true
 |x::r,d,h,hd=>by
  simp only[q10,Á] at h;rcases å.mp hd with rfl | hd
  ·exact h.1
  ·exact A90 h.2 hd
theorem Y60{p:Pat}{b:Sm}{J:L2.It}{xs:List D}{B:Hp}{D:Ends}{σ:L2.St}{H:Hp}{zA:Option Æ}{ow:Nat->Option Æ}{ρ:Env}{z:Z}{rr:R O}(IT:ItB X.K J xs B)
  (rw:RW X.K H0 zE zA ow H ρ σ) (st:d70 zA z H) (sm:a10 B (hw ow (hz zA H))) (ee:Q20 (fBody G.F zE.isNone p b) xs ρ z=some rr) (po:q30 X.K G E H0 zE (hw ow (hz zA H)) D rr) :
  ∃ W:Nat->Nat->L2.St->Hp->Prop,(∃ m,W 0 m σ H)/\∀ i m σ H,W i m σ H ->
   (J.stop i H/\D.nx σ H)∨(J.go i H/\∃ Nn:L2.St->Hp->Prop,(∀ σ' H',Nn σ' H'->∃ m',m' < m/\W (i + 1) m' σ' H')/\∀ x H',J.yld i H x H'->gP X.K p x σ H' λσ2 H2=>tX X.K G E H0 zE b { D with nx:=Nn,ct:=Nn,bk:=D.nx } σ2 H2):=by
 refine⟨λi m σ H=>m=xs.length - i/\i<=xs.length/\∃ zA ow ρ z r,RW X.K H0 zE zA ow H ρ σ/\d70 zA z H/\a10 B (hw ow (hz zA H))/\Q20 (fBody G.F zE.isNone p b) (xs.drop i) ρ z=some r/\q30 X.K G E H0 zE (hw ow (hz zA H)) D r,
  ⟨xs.length,by simp,Å2 _,zA,ow,ρ,z,rr,rw,st,sm,by simpa using ee,po⟩,?_⟩
 rintro i m σ H ⟨rfl,hi,zA,ow,ρ,z,rr,rw,st,sm,ee,po⟩;have sH:a10 B H:=a10.trans sm (a10.trans g20 (a00 zA H));by_cases hlt:i < xs.length
 ·refine .inr ⟨IT.go i H sH hlt,λσ' H'=>∃ zA ow ρ z r,RW X.K H0 zE zA ow H' ρ σ'/\d70 zA z H'/\a10 B (hw ow (hz zA H'))/\Q20 (fBody G.F zE.isNone p b) (xs.drop (i + 1)) ρ z=some r/\q30 X.K G E H0 zE (hw ow (hz zA H')) D r,
   λσ' H' h=>⟨xs.length - (i + 1),by omega,rfl,hlt,h⟩,λx H' y=>?_⟩
  have hd0:xs[i]?=some xs[i]:=Ú hlt;obtain⟨s1,hd⟩:=IT.yld i H x H' zA z _ (a10.trans sm g20) st y hd0;rw[Ý0 hlt] at ee;have e0:M.bind (fBody G.F zE.isNone p b xs[i] ρ) (λo=>match o with | .nx ρ=>Q20 (fBody G.F zE.isNone p b) (xs.drop (i + 1)) ρ | .rt s=>M.ret (.rt s)) z=some rr:=ee
  have r1:=rw.mono (Ext.of s1);have st1:=st.same s1;have sm1:a10 (hw ow (hz zA H)) (hw ow (hz zA H')):=d80 (h50 s1);have hd1:=hd (hw ow (hz zA H')) (a10.trans sm sm1) λ_ _ q=>Y20 q r1.I61;have fin:∀ {ρ1:Env}{o:O}{z1:Z},e40 p xs[i] ρ=some ρ1->ex G.F zE.isNone b ρ1 z=some (.ok o z1)->(match o with | .nx ρ=>Q20 (fBody G.F zE.isNone p b) (xs.drop (i + 1)) ρ | .rt s=>M.ret (.rt s)) z1=some rr->gP X.K p x σ H' λσ2 H2=>tX X.K G E H0 zE b { D with nx:=λσ' H'=>∃ zA ow ρ z r,RW X.K H0 zE zA ow H' ρ σ'/\d70 zA z H'/\a10 B (hw ow (hz zA H'))/\Q20 (fBody G.F zE.isNone p b) (xs.drop (i + 1)) ρ z=some r/\q30 X.K G E H0 zE (hw ow (hz zA H')) D r,ct:=λσ' H'=>∃ zA ow ρ z r,RW X.K H0 zE zA ow H' ρ σ'/\d70 zA z H'/\a10 B (hw ow (hz zA H'))/\Q20 (fBody G.F zE.isNone p b) (xs.drop (i + 1)) ρ z=some r/\q30 X.K G E H0 zE (hw ow (hz zA H')) D r,bk:=D.nx } σ2 H2:=λ{ρ1 o z1} hbp e1 e2=>by
   refine C31 hbp r1 hd1 λow' σ' r2 sm2=>⟨zA,ow',ρ1,z,_,r2,st1,e1,?_⟩;cases o with
   |nx ρ2=>exact λzA3 ow3 σ3 H3 r3 st3 sm3=>⟨zA3,ow3,ρ2,z1,rr,r3,st3,a10.trans sm (a10.trans sm1 (a10.trans sm2 sm3)),e2,po.mono (a10.trans sm1 (a10.trans sm2 sm3))⟩|rt s=>cases e2;exact po
  rcases M.bind_some e0 with ⟨o,z1,e1,e2⟩ | ⟨c,z1,e1,e2⟩
  ·obtain⟨ρ1,hbp,e3⟩:=M.a30 e1;exact fin hbp e3 e2
  ·subst e2;obtain⟨ρ1,hbp,e3⟩:=M.a30 e1;exact C31 hbp r1 hd1 λow' σ' r2 sm2=>⟨zA,ow',ρ1,z,_,r2,st1,e3,po⟩
 ·have e:i=xs.length:=by omega
  subst e;rw[drop_length] at ee;cases ee;exact .inl ⟨IT.stop H sH,po zA ow σ H rw st (a10.refl _)⟩
theorem g42(x:XS lm X G E N sc cn){p:Pat}{i:Nat}{n:Str}{b:Sm}{tg:Î}{body:List Ã8}{np pos:Pos}(hp:g70 N (y10 sc) p tg=true)(h1:N[i]?=some n)(h2:b50 n=true)(hb:PSs X body (tX X.K G E H0 zE b)) :
  PS X (.For tg (.Name n np) body [] pos) (tX X.K G E H0 zE (.fr p .seq (.cons (.var i) .nil) b)):=by
 refine PS.imp (g71 x.own x.calm (g32 x.toXI h1 h2) (e51 x.loc hp) hb (λ_=>rfl)) λD σ H q=>?_;obtain⟨zA,ow,ρ,z,rr,rw,st,ee,po⟩:=q;have e0:M.bind (M.bind (match ρ[i]? with | some (some s)=>M.ret [plS s] | _=>M.no) λx=>M.bind (M.of (one x)) λs=>M.bind (ev G.F .nil ρ) λy=>M.ret (s::y)) (λl=>M.bind (M.of ((plA l).bind (itD .seq))) λxs=>Q20 (fBody G.F zE.isNone p b) xs (m41 .seq (.cons (.var i) .nil) l ρ)) z=some rr:=ee
 cases hs:ρ[i]? with
 |none=>rw[hs] at e0;cases e0
 |some o =>
  cases o with
  |none=>rw[hs] at e0;cases e0
  |some s =>
   rw[hs] at e0;have e1:M.bind (M.of ((plA [plS s]).bind (itD .seq))) (λxs=>Q20 (fBody G.F zE.isNone p b) xs ((ρ.set i ((ρ[i]?.getD none).map plS)).map (M90 (N10 [plS s])))) z=some rr:=e0;obtain⟨xs,hx,e2⟩:=M.a30 e1;have r1:=rw.plain i;have sm:=l10 (H:=hz zA H) ow i;have hi:i < ρ.length:=(ä.mp hs).1;have hsl:(ρ.set i ((ρ[i]?.getD none).map plS))[i]?=some (some (plS s)):=by rw[à hi,hs];rfl
   obtain⟨w,k1,k2⟩:=r1.wor i _ hsl;obtain⟨ds,h3,h4⟩:=Ï.mp hx;obtain⟨d,rfl,h5⟩:=o61 h3;have hd:Hd X.K (hw (ow0 ow i) (hz zA H)) d w:=by
    cases s with
    |d y=>cases h5;exact k2.2
    |fr ys=>cases h5;exact k2.2
    |_=>cases h5
   obtain⟨ow',r2,sm2⟩:∃ ow',RW X.K H0 zE zA ow' H ((ρ.set i ((ρ[i]?.getD none).map plS)).map (M90 (N10 [plS s]))) σ/\a10 (hw (ow0 ow i) (hz zA H)) (hw ow' (hz zA H)):=by
    rw[N00];cases N10 [plS s] with
    |true=>exact⟨_,r1,a10.refl _⟩|false=>exact⟨_,r1.S00,A80 _⟩
   cases d with
   |tup l =>
    cases h4;obtain⟨a,ys,rfl,m1,m2⟩:=hd.t90;exact⟨a,k1,.inl ⟨⟨ys,(a00 zA H).sqT (a10.sqT g20 m1)⟩,Y60 (o31 m1 m2) r2 st sm2 e2 (po.mono (a10.trans sm sm2))⟩⟩
   |lst l =>
    cases h4;obtain⟨a,ys,rfl,m1,m2⟩:=hd.N30;exact⟨a,k1,.inr ⟨⟨ys,((m1.same g20).same (a00 zA H)).sq⟩,Y60 (X80 m1 m2) r2 st sm2 e2 (po.mono (a10.trans sm sm2))⟩⟩
   |_=>cases h4
theorem v12(x:XS lm X G E N sc cn){p:Pat}{it:It}{src:Ex}{b:Sm}{tg iter:Î}{body:List Ã8}{pos:Pos}(hp:g70 N (y10 sc) p tg=true)(hi:PI X tg iter (tIt X.K G E it src))(hns:s40 iter=true)(hv:O61 it src=none)(hb:PSs X body (tX X.K G E H0 zE b)) :
  PS X (.For tg iter body [] pos) (tX X.K G E H0 zE (.fr p it src b)):=by
 refine PS.imp (g71 x.own x.calm hi (e51 x.loc hp) hb (T40 hns X.env)) λD σ H q=>?_;obtain⟨zA,ow,ρ,z,rr,rw,st,ee,po⟩:=q;have e0:M.bind (ev G.F src ρ) (λl=>M.bind (M.of ((plA l).bind (itD it))) λxs=>Q20 (fBody G.F zE.isNone p b) xs ((N20 it src l ρ).map (M90 (N10 l)))) z=some rr:=ee;rcases M.bind_some e0 with ⟨l,z1,e1,e2⟩ | ⟨c,z1,e1,e2⟩
 ·obtain⟨xs,hx,e3⟩:=M.a30 e2;refine⟨zA,ρ,z,_,rw.Q30,st,e1,xs,hx,λJ H1 x1 st1 IT=>?_⟩;have r1:=rw.mono x1;have frz:Q20 (fBody G.F zE.isNone p b) xs (S00 ρ) z1=some rr->_:=λe3=>Y60 (G:=G) (E:=E) (D:=D) (IT (λ_=>True) (hz zA H1) (a10.refl _) (λ_ _ q=>q) (λ_ _ _ q=>q) (λds hds d hd=>by cases d <;> first | trivial | exact λ_ _=>trivial) λ_ _ q _=>q) r1.S00 st1 (by rw[m60];exact a10.refl _) e3 (po.mono (a10.trans (d80 x1) (A80 ow)))
  rw[N00] at e3;have he:N20 it src l ρ=match e11 l with | true=>S00 ρ | false=>ρ:=by
   unfold N20;rw[hv] <;> cases e11 l <;> rfl
  have tt:S00 (S00 ρ)=S00 ρ:=by
   unfold S00;rw[æ];refine Ä1 λo _=>?_
   match o with
   |none=>rfl|some (.d _)=>rfl|some (.fr _)=>rfl|some .z=>rfl|some (.ks _)=>rfl
  cases hl:e11 l with
  |true =>
   rw[hl] at he;rw[he] at e3;dsimp only at e3;rw[tt,ite_self] at e3;exact frz e3
  |false =>
   rw[hl] at he;rw[he] at e3;dsimp only at e3;split at e3
   ·rename_i hbb;refine Y60 (IT (λy=>bare y=true) (hw ow (hz zA H1)) g20 (λa ys q=>Y20 q r1.I61) (λd v hd q=>I30 r1.I61 hd q) (λds hds d hd=>?_) λa ys q hor=>?_) r1 st1 (a10.refl _) e3 (po.mono (d80 x1))
    ·have h:=hbb;unfold N10 at h;rw[hds] at h;have:=ø.mp h d hd;cases d with
     |tup m=>exact λy hy=>A90 this hy|lst m=>exact λy hy=>A90 this hy|_=>trivial
    ·rcases hor with ⟨hn,hm1⟩ | hm
     ·refine o60.of (g40 (c40 hm1 (st.D40 hn)) λj w=>?_);obtain⟨zs,k⟩:=rw.lst j a w;rw[hn] at k;cases k
     ·rw[hl] at hm;cases hm
   ·exact frz e3
 ·subst e2;exact⟨zA,ρ,z,_,rw.Q30,st,e1,po.er_ rw⟩
end
def isQ:Sm->Bool
 |.nil=>true|.seq _ _=>true|.grp ..=>true|_=>false
def S61:Î->Bool
 |.IfExp ..=>false|_=>true
def H82:Î->Bool
 |.SetComp ..=>false|.DictComp ..=>false|_=>true
def mtI(lm:Bool)(fns:List (Str × List Str))(nums:List (Str × Int))(it:It)(src:Ex)(sc:À3)(N:List Str)(tg iter:Î):Bool:=match it with
 |.seq=>mt lm fns nums src sc N [iter]|.rng1=>opt (V91 iter) λr=>r.1.1 == ("range":Str)&&glob sc r.1.1&&mt lm fns nums src sc N [r.1.2.2.1]|.rng2=>opt (W01 iter) λr=>r.1.1 == ("range":Str)&&glob sc r.1.1&&mt lm fns nums src sc N [r.1.2.2.1,r.1.2.2.2.1]|.zip=>opt (W01 iter) λr=>r.1.1 == ("zip":Str)&&glob sc r.1.1&&k20 tg&&mt lm fns nums src sc N [r.1.2.2.1,r.1.2.2.2.1]|.enum=>opt (V91 iter) λr=>r.1.1 == ("enumerate":Str)&&glob sc r.1.1&&k20 tg&&mt lm fns nums src sc N [r.1.2.2.1]
def H92:(p:Pat)->Option {q:Nat × Nat // p=.tup (.cons (.v q.1) (.cons (.v q.2) .nil))}
 |.tup (.cons (.v i) (.cons (.v j) .nil))=>some ⟨(i,j),rfl⟩|_=>none
def I02:(e:Ex)->Option {q:Ex × Ex // e=.tup (.cons q.1 (.cons q.2 .nil))}
 |.tup (.cons a (.cons b .nil))=>some ⟨(a,b),rfl⟩|_=>none
def I12:(e:Î)->Option {q:Î × Î × Nat × Pos // e=.Tuple [q.1,q.2.1] q.2.2.1 q.2.2.2}
 |.Tuple [a,b] k p=>some ⟨(a,b,k,p),rfl⟩|_=>none
def I22(sc:À3)(p:Pat)(e:Ex)(tg v:Î):Bool:=opt (H92 p) λ_=>opt (I02 e) λ_=>opt (z22 tg) λt=>opt (I12 v) λu =>
  !(t.1.1 == t.1.2.2.1)&&sc.names.lookup t.1.1 == some .local&&sc.names.lookup t.1.2.2.1 == some .local&&t.1.2.2.2.1.line == t.1.2.1.line&&noStar u.1.1&&noStar u.1.2.1&&!([u.1.1,u.1.2.1].all (Ø3 8))&&!([u.1.1,u.1.2.1].all (constantsAlone 8))
def isNm:Î->Bool
 |.Name ..=>true|_=>false
def dkB(sc:À3):Î->Î->Bool
 |.Name y _,.DictComp ..=>sc.names.lookup y == some .cell|_,_=>false
def setB(sc:À3)(p:Pat)(e:Ex)(tg v:Î):Bool :=
 if isNm tg then(H82 v || dkB sc tg v) else if k20 tg then(if k20 v then(match v with | .Tuple vs _ _=>vs.all (Ø3 8) | _=>false) || (match tg with | .Tuple ts _ _=>ts.any (p51 λy=>sc.names.lookup y) | _=>false) || I22 sc p e tg v else true) else false
def S71:(e:List Ã8)->Option {q:Î × Î × Pos // e=[.Assign [q.1] q.2.1 q.2.2]}
 |[.Assign [tg] v p]=>some ⟨(tg,v,p),rfl⟩|_=>none
def v22:(e:List Ã8)->Option {q:Option Î × Pos // e=[.Return q.1 q.2]}
 |[.Return v p]=>some ⟨(v,p),rfl⟩|_=>none
def I32:(e:List Ã8)->Option {q:Î × List Ã8 × List Ã8 × Pos // e=[.If q.1 q.2.1 q.2.2.1 q.2.2.2]}
 |[.If c a b p]=>some ⟨(c,a,b,p),rfl⟩|_=>none
def v32:(e:List Ã8)->Option {q:Î × Î × List Ã8 × Pos // e=[.For q.1 q.2.1 q.2.2.1 [] q.2.2.2]}
 |[.For tg iter body [] p]=>some ⟨(tg,iter,body,p),rfl⟩|_=>none
def v42:(e:List Ã8)->Option {q:Î × List Ã8 × Pos // e=[.While q.1 q.2.1 [] q.2.2]}
 |[.While c body [] p]=>some ⟨(c,body,p),rfl⟩|_=>none
def g52:(e:List Ã8)->Option {q:Î × Pos // e=[.Raise (some q.1) none q.2]}
 |[.Raise (some x) none p]=>some ⟨(x,p),rfl⟩|_=>none
def g62:(e:List Ã8)->Option {q:Î × Pos // e=[.Expr q.1 q.2]}
 |[.Expr v p]=>some ⟨(v,p),rfl⟩|_=>none
def v52:(e:Î)->Option {q:Str × Pos × Str × Nat × Pos × Pos // e=.Call (.Name q.1 q.2.1) [.Constant (.str q.2.2.1) q.2.2.2.1 q.2.2.2.2.1] [] q.2.2.2.2.2}
 |.Call (.Name n p1) [.Constant (.str y) k p2] [] p3=>some ⟨(n,p1,y,k,p2,p3),rfl⟩|_=>none
def v62:(e:Î)->Option {q:Str × Pos × Str × Pos × Î × Pos // e=.Call (.Attribute (.Name q.1 q.2.1) q.2.2.1 q.2.2.2.1) [q.2.2.2.2.1] [] q.2.2.2.2.2}
 |.Call (.Attribute (.Name n p) a ap) [v] [] cp=>some ⟨(n,p,a,ap,v,cp),rfl⟩|_=>none
def I42:(e:Î)->Option {q:Str × Pos × Nat × Pos × Pos // e=.Subscript (.Name q.1 q.2.1) (.Constant (.int 0) q.2.2.1 q.2.2.2.1) q.2.2.2.2}
 |.Subscript (.Name n p) (.Constant (.int 0) c q1) tp=>some ⟨(n,p,c,q1,tp),rfl⟩|_=>none
def I52:(e:Î)->Option {q:Str × Pos × Î × Pos // e=.Subscript (.Name q.1 q.2.1) q.2.2.1 q.2.2.2}
 |.Subscript (.Name n p) w tp=>some ⟨(n,p,w,tp),rfl⟩|_=>none
def I62:(e:Î)->Option {q:Str × Pos // e=.Name q.1 q.2}
 |.Name n p=>some ⟨(n,p),rfl⟩|_=>none
def C81:Ex->Bool
 |.con .non=>true|_=>false
def mtS(lm:Bool)(fns:List (Str × List Str))(nums:List (Str × Int))(cn:List Str)(sc:À3)(N:List Str):Sm->List Ã8->Bool
 |.nil,ss=>ss.isEmpty|.seq s r,ss=>opt ss.head? λst=>!isQ s&&isQ r&&mtS lm fns nums cn sc N s [st]&&mtS lm fns nums cn sc N r ss.tail|.grp i j k src,ss=>z52 lm fns nums sc N i j k src ss|.set p e,ss=>opt (S71 ss) λq=>!isL e&&g70 N (y10 sc) p q.1.1&&mt lm fns nums e sc N [q.1.2.1]&&setB sc p e q.1.1 q.1.2.1
 |.ret e,ss=>opt (v22 ss) λq=>match q.1.1 with
  |some v=>!isL e&&mt lm fns nums e sc N [v]|none=>C81 e
 |.iff c t u,ss=>opt (I32 ss) λq=>!isL c&&S61 q.1.1&&isQ t&&isQ u&&mt lm fns nums c sc N [q.1.1]&&mtS lm fns nums cn sc N t q.1.2.1&&mtS lm fns nums cn sc N u q.1.2.2.1|.fr p it src b,ss=>opt (v32 ss) λq=>g70 N (y10 sc) p q.1.1&&isL src&&s40 q.1.2.1&&isQ b&&mtI lm fns nums it src sc N q.1.1 q.1.2.1&&mtS lm fns nums cn sc N b q.1.2.2.1|.whl c b,ss=>opt (v42 ss) λq=>!isL c&&S61 q.1.1&&isQ b&&mt lm fns nums c sc N [q.1.1]&&mtS lm fns nums cn sc N b q.1.2.1|.rais c,ss=>opt (g52 ss) λq=>opt (v52 q.1.1) λr=>cn[c]? == some r.1.1&&glob sc r.1.1|.exp e,ss=>opt (g62 ss) λq=>O10 q.1.1&&!isL e&&mt lm fns nums e sc N [q.1.1]|.app i e,ss=>opt (g62 ss) λq=>opt (v62 q.1.1) λr=>r.1.2.2.1 == ("append":Str)&&N[i]? == some r.1.1&&b50 r.1.1&&noStar r.1.2.2.2.2.1&&!isL e&&r.1.2.2.2.1.endLine == r.1.2.2.2.2.2.line&&mt lm fns nums e sc N [r.1.2.2.2.2.1]|.newz i f as,ss=>opt (S71 ss) λq=>opt (I62 q.1.1) λr=>N[i]? == some r.1.1&&y10 sc r.1.1&&O10 q.1.2.1&&mt lm fns nums (.call f as) sc N [q.1.2.1]|.zset i e,ss=>opt (S71 ss) λq=>opt (I42 q.1.1) λr=>N[i]? == some r.1.1&&b50 r.1.1&&!isL e&&mt lm fns nums e sc N [q.1.2.1]
section
variable {lm:Bool}{X:Cx}{G:Gs}{E:XK}{N:List Str}{sc:À3}{cn:List Str}{H0:Hp}{zE:Option Æ}
theorem v72(x:XI lm X G E N sc){it:It}{src:Ex}{tg iter:Î}(hL:isL src=true)(h:mtI lm G.fns G.nums it src sc N tg iter=true):PI X tg iter (tIt X.K G E it src):=by
 cases it with
 |seq =>
  obtain⟨a,rfl,ga⟩:=p21 hL (sound G src x h);exact I51 ga
 |rng1 =>
  obtain⟨⟨⟨n,_,a,_⟩,rfl⟩,-,h⟩:=a50 h;simp only[Á,beq_iff_eq] at h;exact o71 x h.1.1 h.1.2 hL (sound G src x h.2)
 |rng2 =>
  obtain⟨⟨⟨n,_,a,b,_⟩,rfl⟩,-,h⟩:=a50 h;simp only[Á,beq_iff_eq] at h;exact o81 x h.1.1 h.1.2 hL (sound G src x h.2)
 |zip =>
  obtain⟨⟨⟨n,_,a,b,_⟩,rfl⟩,-,h⟩:=a50 h;simp only[Á,beq_iff_eq] at h;exact p11 x h.1.2 h.1.1.1 h.1.1.2 hL (sound G src x h.2)
 |enum =>
  obtain⟨⟨⟨n,_,a,_⟩,rfl⟩,-,h⟩:=a50 h;simp only[Á,beq_iff_eq] at h;exact I00 x h.1.2 h.1.1.1 h.1.1.2 hL (sound G src x h.2)
theorem Y70(h:S61 e=true):∀ t a b p,e≠.IfExp t a b p:=by
 intro t a b p he;subst he;cases h
def GS(X:Cx)(G:Gs)(E:XK)(H0:Hp)(zE:Option Æ)(s:Sm)(ss:List Ã8):Prop:=(isQ s=true->PSs X ss (tX X.K G E H0 zE s))/\(isQ s=false->∃ st,ss=[st]/\PS X st (tX X.K G E H0 zE s))
theorem p10{s:Sm}{st:Ã8}(hq:isQ s=false)(h:PS X st (tX X.K G E H0 zE s)):GS X G E H0 zE s [st]:=⟨λk=>(by rw[hq] at k;cases k),λ_=>⟨st,rfl,h⟩⟩
theorem S81{x:XI lm X G E N sc}{e:Ex}{elt:Î}{gs:List Comprehension}{csc:À3}{q:Pos}(h:mt lm G.fns G.nums e sc N [.ListComp elt gs csc q]=true)(hL:isL e=false):∃ tg iter ifs,gs=[⟨tg,iter,ifs,0⟩]/\D90 X G E e elt tg iter ifs csc:=by
 cases e with
 |comp own capt p it src cond el =>
  match gs,h with
  |[⟨tg,iter,ifs,0⟩],h=>exact⟨tg,iter,ifs,rfl,O00 (λx _=>sound G src x) (λx _=>sound G cond x) (λx _=>sound G el x) x h⟩
 |nil=>cases hL
 |cons _ _=>cases hL
 |bf f as=>cases f <;> cases h
 |_=>cases h
theorem S91(h:isNm e=true):∃ y p,e=.Name y p:=by
 cases e <;> first | exact⟨_,_,rfl⟩ | cases h
theorem s90(h:k20 e=true):∃ ts k p,e=.Tuple ts k p:=by
 cases e <;> first | exact⟨_,_,_,rfl⟩ | cases h
theorem v82(x:XS lm X G E N sc cn){p:Pat}{e:Ex}{tg v:Î}{pos:Pos}(h1:(!isL e)=true)(h2:g70 N (y10 sc) p tg=true)(h3:mt lm G.fns G.nums e sc N [v]=true)(h4:setB sc p e tg v=true):PS X (.Assign [tg] v pos) (tX X.K G E H0 zE (.set p e)):=by
 have g:=a80 (b40 h1) (sound G e x.toXI h3);unfold setB at h4;split at h4
 ·rename_i hn;obtain⟨y,px,rfl⟩:=S91 hn;cases p with
  |v i =>
   unfold g70 at h2;rw[Á,beq_iff_eq] at h2;refine u22 x h2.1 h2.2 g (λelt gs csc q hv=>?_) (λa b c d hv=>?_) (λa b c d f hv=>?_)
   ·subst hv;exact S81 (x:=x.toXI) h3 (b40 h1)
   ·subst hv;cases h4
   ·subst hv;exact eq_of_beq h4
  |tup _=>unfold g70 at h2;cases h2
  |nil=>unfold g70 at h2;cases h2
  |cons _ _=>unfold g70 at h2;cases h2
 ·split at h4
  ·rename_i ht;split at h4
   ·rename_i hv;rw[Å5,Å5] at h4;rcases h4 with (h4 | h4) | h4
    ·obtain⟨ts,k,tp,rfl⟩:=s90 ht;obtain⟨vs,k',vp,rfl⟩:=s90 hv;exact p61 x h2 g rfl (S01 h4)
    ·obtain⟨ts,k,tp,rfl⟩:=s90 ht;obtain⟨vs,k',vp,rfl⟩:=s90 hv;refine p61 x h2 g rfl (S11 ?_);have e:X.env.kindOf=λy=>sc.names.lookup y:=by funext y;unfold Env.kindOf;rw[x.sco]
     rw[e];exact h4
    ·clear g h1 ht hv;obtain⟨⟨⟨i,j⟩,rfl⟩,-,h4⟩:=a50 h4;obtain⟨⟨⟨ea,eb⟩,rfl⟩,-,h4⟩:=a50 h4;obtain⟨⟨⟨y,px,w,py,kt,tp⟩,rfl⟩,-,h4⟩:=a50 h4;obtain⟨⟨⟨a,b,kv,vp⟩,rfl⟩,-,h4⟩:=a50 h4;simp only[Á,ú,beq_iff_eq] at h4;obtain⟨⟨⟨⟨⟨⟨⟨k1,k2⟩,k3⟩,k4⟩,k5⟩,k6⟩,k7⟩,k8⟩:=h4;unfold g70 at h2;simp only[X30,g70,Á,beq_iff_eq] at h2;obtain⟨⟨_,h21,_⟩,⟨_,h22,_⟩,_⟩:=h2;have h3':(isL (.cons ea (.cons eb .nil))&&mt lm G.fns G.nums (.cons ea (.cons eb .nil)) sc N [a,b])=true:=h3;rw[Á] at h3';have ga:Good X G E (.cons ea (.cons eb .nil)) [a,b]:=sound G (.cons ea (.cons eb .nil)) x.toXI h3'.2;refine u32 x h21 h22 (by simpa using k1) k2 k3 ga (f72 x.bk ?_ ?_ (by simpa using k1) (by rw[k4];exact beq_self_eq_true _) k5 k6 k7 k8)
     ·unfold Env.kindOf;rw[x.sco];exact k2
     ·unfold Env.kindOf;rw[x.sco];exact k3
   ·rename_i hv;exact p61 x h2 g ht (R91 (by simpa using hv))
  ·cases h4
theorem q11(h:C81 e=true):e=.con .non:=by
 unfold C81 at h;split at h
 ·rfl
 ·cases h
theorem v92(x:XS lm X G E N sc cn)(h:(match o with | some v=>!isL e&&mt lm G.fns G.nums e sc N [v] | none=>C81 e)=true):PS X (.Return o pos) (tX X.K G E H0 zE (.ret e)):=by
 cases o with
 |some v =>
  have h:(!isL e&&mt lm G.fns G.nums e sc N [v])=true:=h;rw[Á] at h;by_cases hv:∃ i,e=.var i
  ·obtain⟨i,rfl⟩:=hv;have h2:=h.2;cases v with
   |Name n p =>
    have h2:(N[i]? == some n&&b50 n)=true:=h2;rw[Á,beq_iff_eq] at h2;exact f82 x h2.1 h2.2
   |_=>cases h2
  ·exact u42 (λi hi=>hv ⟨i,hi⟩) (a80 (b40 h.1) (sound G e x.toXI h.2))
 |none =>
  have he:=q11 h;subst he;refine PS.imp K31 λD σ H q=>?_;obtain⟨zA,ow,ρ,z,rr,rw,st,ee,po⟩:=q;cases ee;exact po .non H (λk=>nomatch k) rw.ext (R71 rw.zok st) (show Hd X.K (hz zE H) .non .non from Hd.non)
theorem I72(x:XS lm X G E N sc cn){p:Pat}{it:It}{src:Ex}{b:Sm}{tg iter:Î}{body:List Ã8}{pos:Pos}(h1:g70 N (y10 sc) p tg=true)(h2:isL src=true)(h3:s40 iter=true)(h5:mtI lm G.fns G.nums it src sc N tg iter=true)(hb:PSs X body (tX X.K G E H0 zE b)) :
  PS X (.For tg iter body [] pos) (tX X.K G E H0 zE (.fr p it src b)):=by
 cases hv:O61 it src with
 |some q =>
  obtain⟨i,rfl,rfl⟩:=q;have h5':(noStar iter&&!isL (.var i)&&isL .nil&&mt lm G.fns G.nums (.var i) sc N [iter]&&mt lm G.fns G.nums .nil sc N [])=true:=h5;simp only[Á] at h5';have h7:=h5'.1.2;cases iter with
  |Name n np =>
   have h7:(N[i]? == some n&&b50 n)=true:=h7;rw[Á,beq_iff_eq] at h7;exact g42 x h1 h7.1 h7.2 hb
  |_=>cases h7
 |none=>exact v12 x h1 (v72 x.toXI h2 h5) h3 hv hb
theorem g72(x:XS lm X G E N sc cn):∀ (s:Sm) {ss:List Ã8},mtS lm G.fns G.nums cn sc N s ss=true->GS X G E H0 zE s ss:=by
 intro s
 induction s with
 |nil =>
  intro ss h;have:ss=[]:=Ç9.mp h;subst this;exact⟨λ_=>u02,λk=>by cases k⟩
 |seq s r ihs ihr =>
  intro ss h;obtain⟨st,h0,h⟩:=a50 h;cases ss with
  |nil=>cases h0
  |cons st' rest =>
   cases h0;simp only[Á,ú,List.tail_cons] at h;obtain⟨⟨⟨h1,h2⟩,h3⟩,h4⟩:=h;obtain⟨st',he,hs⟩:=(ihs h3).2 h1;cases he;exact⟨λ_=>u12 hs ((ihr h4).1 h2),λk=>by cases k⟩
 |grp i j k src =>
  intro ss h;exact⟨λ_=>u92 x h,λk=>by cases k⟩
 |set p e =>
  intro ss h;obtain⟨⟨q,rfl⟩,-,h⟩:=a50 h;simp only[Á] at h;exact p10 rfl (v82 x h.1.1.1 h.1.1.2 h.1.2 h.2)
 |ret e =>
  intro ss h;obtain⟨⟨q,rfl⟩,-,h⟩:=a50 h;exact p10 rfl (v92 x h)
 |iff c t u iht ihu =>
  intro ss h;obtain⟨⟨q,rfl⟩,-,h⟩:=a50 h;simp only[Á] at h;obtain⟨⟨⟨⟨⟨⟨h1,h2⟩,h3⟩,h4⟩,h5⟩,h6⟩,h7⟩:=h;exact p10 rfl (G62 (a80 (b40 h1) (sound G c x.toXI h5)) (Y70 h2) ((iht h6).1 h3) ((ihu h7).1 h4))
 |fr p it src b ih =>
  intro ss h;obtain⟨⟨q,rfl⟩,-,h⟩:=a50 h;simp only[Á] at h;obtain⟨⟨⟨⟨⟨h1,h2⟩,h3⟩,h4⟩,h5⟩,h6⟩:=h;exact p10 rfl (I72 x h1 h2 h3 h5 ((ih h6).1 h4))
 |whl c b ih =>
  intro ss h;obtain⟨⟨q,rfl⟩,-,h⟩:=a50 h;simp only[Á] at h;obtain⟨⟨⟨⟨h1,h2⟩,h3⟩,h4⟩,h5⟩:=h;exact p10 rfl (u72 x (a80 (b40 h1) (sound G c x.toXI h4)) (Y70 h2) ((ih h5).1 h3))
 |rais c =>
  intro ss h;obtain⟨⟨⟨e,pos⟩,rfl⟩,-,h⟩:=a50 h;dsimp only at h;obtain⟨⟨⟨n,p1,y,k,p2,p3⟩,rfl⟩,-,h⟩:=a50 h;simp only[Á,beq_iff_eq] at h;exact p10 rfl (x_raise x h.1 h.2)
 |exp e =>
  intro ss h;obtain⟨⟨q,rfl⟩,-,h⟩:=a50 h;simp only[Á] at h;exact p10 rfl (u52 (a80 (b40 h.1.2) (sound G e x.toXI h.2)) h.1.1)
 |app i e =>
  intro ss h;obtain⟨⟨⟨v0,pos⟩,rfl⟩,-,h⟩:=a50 h;dsimp only at h;obtain⟨⟨⟨n,p1,a,apos,v,cpos⟩,rfl⟩,-,h⟩:=a50 h;simp only[Á,beq_iff_eq] at h;obtain⟨⟨⟨⟨⟨⟨h7,h8⟩,h2⟩,h3⟩,h4⟩,h5⟩,h6⟩:=h;subst h7;exact p10 rfl (u62 x h8 h2 h3 (a80 (b40 h4) (sound G e x.toXI h6)) (by rw[h5];exact beq_self_eq_true _))
 |newz i f as =>
  intro ss h;obtain⟨⟨⟨tg,v,pos⟩,rfl⟩,-,h⟩:=a50 h;dsimp only at h;obtain⟨⟨⟨y,p1⟩,rfl⟩,-,h⟩:=a50 h;simp only[Á,beq_iff_eq] at h;obtain⟨⟨⟨h1,h2⟩,h3⟩,h4⟩:=h;exact p10 rfl (g12 x h1 h2 (a80 rfl (sound G (.call f as) x.toXI h4)) h3)
 |zset i e =>
  intro ss h;obtain⟨⟨⟨tg,v,pos⟩,rfl⟩,-,h⟩:=a50 h;dsimp only at h;obtain⟨⟨⟨n,p1,c,p2,p3⟩,rfl⟩,-,h⟩:=a50 h;simp only[Á,beq_iff_eq] at h;exact p10 rfl (g22 x h.1.1.1 h.1.1.2 (a80 (b40 h.1.2) (sound G e x.toXI h.2)))
end
structure GX(P:Program)(w:World)(K:PySem.W.Frag)(mg:Str->Option Value)(base:Heap)(G:Gs)(cn:List Str):Prop where
 gok:∀ f nm ps,G.fns[f]?=some (nm,ps)->∃ fa fd,mg nm=some (.ref fa)/\PySem.W.keepIn K (.ref fa)=true/\Binds K fd ps []/\c11 P w K mg base (CX1 P w) G.lv fa fd ps (spF K G f ps.length)
 num:∀ p∈G.nums,∃ t,mg p.1=some (.int p.2 t)
 blt:∀ n∈Q61,mg n=none
 cls:∀ c x,cn[c]?=some x->mg x=some (.ref (G.cls c))/\PySem.W.excIn K (G.cls c) [.type "ValueError",.type "Exception",.type "BaseException",.type "object"] "ValueError.__new__"=true
section
variable {P:â}{w:õ}{K:Â}{mg:Str->Option Ä}{base:ï}{G:Gs}{cn:List Str}
theorem g82(g:GX P w K mg base G cn){lm:Bool}{N ps:List Str}{qual:Str}{sc:À3}{f:Æ}{fd:É3}{cd:Ä}{A:ü}{outer:List Æ1}{s:Å}{H:Hp}{E:XK}(S:p60 N ps sc)(hl:N.all (y10 sc)=true)
  (hr:K60 G.lv (A.deeper (Õ1 qual sc s.heap.objs.size f cd))) (hc:fd.code=cd):XS lm (L10 (CX1 P w) P w K mg base N qual sc f cd A outer s H E) G E N sc cn where
 gok:=g.gok
 num:=g.num
 blt:=g.blt
 hN:=rfl
 nd:=S.nd
 vis:=λx hx=>by
  have:=ø.mp hl x hx;unfold y10 at this;rw[Å5,beq_iff_eq,beq_iff_eq] at this;rcases this with h | h
  ·exact .inl h
  ·exact .inr (.inl h)
 glb:=λx h=>h
 cel:=λx h=>h
 calm:=rfl
 room:=hr
 pas:=p62
 sco:=rfl
 fnk:=S.kind
 own:=PassesOwn.leaving
 can:=k91
 fnx:=λ_=>rfl
 cls:=g.cls
theorem I82{x qual:Str}{st:Ã8}{f:Æ}{fd:É3}{N ps:List Str}{k:Nat}{sp:Sp}(F:Fun K x qual st f fd)(S:p60 N ps (c70 st))(len:∀ vs H Q E,sp vs H Q E->vs.length=ps.length)
  (hb:∀ (cdv:Ä),fd.code=cdv->∀ (A:ü) (outer:List Æ1) (s:Å) (H:Hp) (vs:List V) (Q:VK) (E:XK),K60 k (A.deeper (Õ1 qual (c70 st) s.heap.objs.size f cdv))->sp vs H Q E ->
   ∃ t,PSs (L10 (CX1 P w) P w K mg base N qual (c70 st) f cdv A outer s H E) (m20 st) t/\t { nx:=λ_ H'=>Q .non H',rt:=Q } (L2.start N vs) H):c11 P w K mg base (CX1 P w) (k + 1) f fd ps sp:=by
 obtain⟨oc,od,kV,doc,pm,an,cdv,ct,osl,rfl,lk,hcd⟩:=F.ex;exact o22 lk hcd S len λA outer s H vs Q E hr hsp=>hb cdv rfl A outer s H vs Q E hr hsp
theorem Y80:∀ {ss:List S}{vs:List V}{i:Nat}{s:S}{n:Nat},RvA K zA H ss vs->(ss.map some++ë n none)[i]?=some (some s)->∃ v,(vs.map some++ë n none)[i]?=some (some v)/\RvP K zA H s v
 |[],_,i,s,n,h,e=>by
  cases h;simp only[map_nil,Ð4] at e;rw[Î8] at e;split at e <;> cases e
 |a::ss,_,0,s,n,h,e=>by
  cases h with
  |cons h1 h2 =>
   simp only[Ã5,List.cons_append,Þ0] at e;cases e;exact⟨_,rfl,h1⟩
 |a::ss,_,i + 1,s,n,h,e=>by
  cases h with
  |cons h1 h2 =>
   obtain⟨v,k1,k2⟩:=Y80 (i:=i) (s:=s) (n:=n) h2 (by simpa using e)
   exact⟨v,by simpa using k1,k2⟩
theorem Á7.len{α β:Type}{R:α->β->Prop}:∀ {l:List α}{m:List β},Á7 R l m->l.length=m.length
 |[],_,h=>by cases h;rfl
 |_::_,_,h=>by
  cases h with
  |cons h1 h2=>simp[Á7.len h2]
theorem C91(h:RvA K zA H ss vs)(hn:∀ s∈ss,∀ xs,s≠.fr xs):RW K H zA zA (λ_=>none) H (Q.start N.length ss) (L2.start N vs):=by
 have hl:ss.length=vs.length:=Á7.len h;refine⟨?_,λi j a e=>(nomatch e),λi a e=>(nomatch e),λi a e=>(nomatch e),λi s e=>?_,Ext.refl,.inl rfl,λi a e=>(nomatch e)⟩
 ·unfold Q.start L2.start;simp[hl]
 ·unfold Q.start at e;obtain⟨v,k1,k2⟩:=Y80 h e;refine⟨v,?_,?_⟩
  ·unfold L2.start;rw[← hl];exact k1
  ·cases s with
   |d x=>exact⟨rfl,by rw[m60];exact k2⟩|z=>exact⟨rfl,k2⟩|ks l=>exact⟨rfl,by rw[m60];exact k2⟩
   |fr xs =>
    rcases À2.mp (ê e) with q | q
    ·obtain⟨s',q1,q2⟩:=Ð.mp q;cases q2;exact absurd rfl (hn _ q1 xs)
    ·cases List.eq_of_mem_replicate q
theorem T01(st:d70 zA z H):l22 zA z1=H00 z z1:=by
 have st:=st.zat;cases zA with
 |none =>
  cases z with
  |none=>rfl|some p=>exact st.elim
 |some a =>
  cases z with
  |none=>exact st.elim|some p=>rfl
theorem q21(st:d70 zA z H):z.isNone=zA.isNone:=by
 have st:=st.zat;cases zA with
 |none =>
  cases z with
  |none=>rfl|some p=>exact st.elim
 |some a =>
  cases z with
  |none=>exact st.elim|some p=>rfl
theorem q31(g:GX P w K mg base G cn){lm:Bool}{N ps:List Str}{nm:Str}{st:Ã8}{fa:Æ}{fd:É3}{b:Sm}{f:Nat}{F':FT}(Fn:Fun K nm nm st fa fd)(Sc:p60 N ps (c70 st))(hl:N.all (y10 (c70 st))=true)
  (ch:mtS lm G.fns G.nums cn (c70 st) N b (m20 st)=true) (hq:isQ b=true)
  (hF:∀ l z,F' false f l z=run G.F (.code ps.length N.length b) l z):c11 P w K mg base (CX1 P w) (G.lv + 1) fa fd ps (spF K { G with F:=F',lv:=G.lv + 1 } f ps.length):=by
 refine I82 Fn Sc (λvs H Q E h=>h.1) λcdv hcd A outer s H vs Qv E hr hsp=>?_;obtain⟨hlen,zA,z,ss,r,rv,st',e,po⟩:=hsp;refine⟨_,(g72 (H0:=H) (zE:=zA) (g82 g Sc hl hr hcd) b ch).1 hq,?_⟩;have e0:(if ss.length=ps.length/\ps.length<=N.length then(match ex G.F z.isNone b (Q.start N.length (ss.map plS)) z with
  |some (.ok (.nx _) z1)=>some (R.ok (S.d .non) (H00 z z1))|some (.ok (.rt s) z1)=>some (R.ok s (H00 z z1))|some (.er c z1)=>some (R.er c (H00 z z1))
  |none=>none) else none)=some r:=by
  have:=hF ss z;exact this.symm.trans e
 rw[q21 st'] at e0;split at e0
 ·have rw0:RW K H zA zA (λ_=>none) H (Q.start N.length (ss.map plS)) (L2.start N vs):=C91 rv.plS λs hs xs=>by
   obtain⟨s',_,rfl⟩:=Ð.mp hs;cases s' <;> exact λh=>nomatch h
  split at e0
  ·rename_i ρ z1 e1;cases e0;refine⟨zA,_,_,z,_,rw0,st',e1,λzA' ow' σ' H' r' st1 _=>?_⟩;refine po .non H' r'.ext ?_ (show Hd K (hz zA H') .non .non from Hd.non);rw[← T01 st'];exact R71 r'.zok st1
  ·rename_i s1 z1 e1;cases e0;refine⟨zA,_,_,z,_,rw0,st',e1,λv H' nz x st1 rv'=>?_⟩;exact po v H' x (by rw[← T01 st'];exact st1) rv'
  ·rename_i c z1 e1;cases e0;refine⟨zA,_,_,z,_,rw0,st',e1,λe H' x st1 hn=>?_⟩;exact po e H' x (by rw[← T01 st'];exact st1) hn
  ·cases e0
 ·cases e0
def lev(G:Gs)(T:List Df)(k:Nat):Gs:={ G with F:=S10 T k,lv:=k }
theorem g92{T:List Df}
  (num:∀ p∈G.nums,∃ t,mg p.1=some (.int p.2 t)) (blt:∀ n∈Q61,mg n=none)
  (cls:∀ c x,cn[c]?=some x->mg x=some (.ref (G.cls c))/\Ì7 K (G.cls c) [.type "ValueError",.type "Exception",.type "BaseException",.type "object"] "ValueError.__new__"=true)
  (hd:∀ (f:Nat) (nm:Str) (ps:List Str),G.fns[f]?=some (nm,ps)->∃ (fa:Æ) (fd:É3),mg nm=some (.ref fa)/\PySem.W.keepIn K (.ref fa)=true/\Binds K fd ps [] /\
   ((∃ (lm:Bool) (N:List Str) (st:Ã8) (b:Sm),T[f]?=some (Df.code ps.length N.length b)/\Fun K nm nm st fa fd/\p60 N ps (c70 st)/\N.all (y10 (c70 st))=true/\isQ b=true/\mtS lm G.fns G.nums cn (c70 st) N b (m20 st)=true) ∨
    T[f]?=none)):∀ k,GX P w K mg base (lev G T k) cn:=by
 have zero:∀ k,k < 3->GX P w K mg base (lev G T k) cn:=λk hk=>by
  refine⟨λf nm ps h=>?_,num,blt,cls⟩;obtain⟨fa,fd,h1,h2,h3,_⟩:=hd f nm ps h;refine⟨fa,fd,h1,h2,h3,λvs H Q E q=>q.1,λA outer s H args us vs Q E hr he hb hv hs=>?_⟩;obtain⟨_,zA,z,ss,r,_,_,e,_⟩:=hs
  match k,hk with
  |0,_=>cases e
  |1,_=>cases e
  |2,_=>cases e
 intro k
 induction k using Nat.strongRecOn with
 |ind k ih =>
  match k,ih with
  |0,_=>exact zero 0 (-0)|1,_=>exact zero 1 (-0)|2,_=>exact zero 2 (-0)
  |k + 3,ih =>
   refine⟨λf nm ps h=>?_,num,blt,cls⟩;obtain⟨fa,fd,h1,h2,h3,h4⟩:=hd f nm ps h;refine⟨fa,fd,h1,h2,h3,?_⟩;rcases h4 with ⟨lm,N,st,b,k1,k2,k3,k4,k5,k6⟩ | h4
   ·refine q31 (G:=lev G T (k + 2)) (F':=S10 T (k + 3)) (ih (k + 2) ∅) k2 k3 k4 k6 k5 λl z=>?_
    ·show(match T[f]? with | some d=>run (S10 T (k + 2)) d l | none=>M.no) z=_
     rw[k1];rfl
   ·refine⟨λvs H Q E q=>q.1,λA outer s H args us vs Q E hr he hb hv hs=>?_⟩;obtain⟨_,zA,z,ss,r,_,_,e,_⟩:=hs;have e':(match T[f]? with | some d=>run (S10 T (k + 2)) d ss | none=>M.no) z=some r:=e
    rw[h4] at e';cases e'
end
end Q
namespace L2
open PySem PySem.W PySem.Calls PyProof.Rows
def B00(thr sok:Thread->Bool)(stp:SharedT->Thread->Option (SharedT × Thread)):Nat->SharedT->Thread->Option SharedT
 |0,_,_=>none
 |n + 1,s,t=>match thr t with
  |true=>some s
  |false=>match sok t with
   |false=>none
   |true=>match stp s t with
    |some (s',t')=>B00 thr sok stp n s' t'|none=>none
theorem O40:∀ {n:Nat}{s s':SharedT}{t:Thread},B00 through (stepOk n₀ ann) (stepT (denote tb) p w) n s t=some s'->topRun tb p w n₀ ann n s.abs t=some s'.abs
 |0,_,_,_,h=>by cases h
 |n + 1,s,s',t,h=>by
  unfold B00 at h;unfold topRun;cases ht:through t with
  |true=>rw[ht] at h;cases h;rfl
  |false =>
   rw[ht] at h;cases hok:stepOk n₀ ann t with
   |false=>rw[hok] at h;cases h
   |true =>
    rw[hok] at h;cases hst:stepT (denote tb) p w s t with
    |none=>rw[hst] at h;cases h
    |some r=>obtain⟨s₂,t₂⟩:=r;rw[hst] at h;rw[stepT_spec hst];exact O40 h
def grow:List Obj->Nat->BT->BT
 |[],_,t=>t|o::r,i,t=>grow r (i + 1) (t.ins i o)
def T11(w:õ)(os:OsState):SharedT:=⟨grow (È4 w.params).objs.toList 0 .nil,11,(È4 w.params).life,Array.mk [],boot_drawn,boot_toks,os⟩
theorem q41:∀ (w:õ) (os:OsState),(T11 w os).abs=⟨È4 w.params,Array.mk [],boot_drawn,boot_toks,os⟩:=λw os=>by kernel_rfl
theorem q51:∀ w:õ,((È4 w.params).isNs ô&&(Array.mk []:Array GenState).size == 0,(È4 w.params).objs.size,(È4 w.params).nsMap ô "__annotations__")=(true,11,some (.ref 6)):=λw=>by kernel_rfl
theorem T21{p q:â}{loose:List Str}{Xt:Å->Bool}{α:Type}{Yf:Å->α}{Ya:õ->α}{N:Nat}
  (e:opening p=plainProg p.main.scope.names) (hN:ble 600 N=true) (f:∀ s,fenceModules? p s=some s)
  (run:∀ (w:õ) (os:OsState),(B00 through (stepOk 11 (some (.ref 6))) (stepT (denote treeTable) p w) N (T11 w os) (topStub p)).map (λs =>
   (staticsOk (Ì6 p.main.body) (È4 w.params) s.abs.heap&&namesBound p s.abs.heap&&gensDone s.abs&&laidKept (È4 w.params) s.abs.heap,
    openSeen q loose (Ì6 p.main.body) Xt true s.abs,Yf s.abs))=some (true,openGood q loose,Ya w)):LeftO p q loose Xt Yf Ya N:=λw=>by
 obtain⟨⟨h,gs,d,k,os⟩,e1,e2⟩:=Ê.mp (boot_open (N:=N) e hN f w);obtain⟨rfl,rfl,rfl,rfl⟩:h=È4 w.params/\gs=Array.mk []/\d=boot_drawn/\k=boot_toks:=by simpa using e2
 obtain⟨z1,z2,z3⟩:_/\_/\_:=by simpa only [Ñ4] using q51 w
 obtain⟨s1,r1,r2⟩:=Ê.mp (run w os);obtain⟨l1,l2,l3⟩:_/\_/\_:=by simpa only [Ñ4] using r2
 have r:=O40 r1;rw[q41] at r;unfold openEnds;rw[e1];show Ë9 _ (topFrom treeTable p w N _)=_;unfold topFrom;dsimp only;rw[z1,z2,z3,r];show Ë9 _ (match staticsOk (Ì6 p.main.body) (È4 w.params) s1.abs.heap&&namesBound p s1.abs.heap&&gensDone s1.abs&&laidKept (È4 w.params) s1.abs.heap with | true=>_ | false=>_)=_
 rw[l1];exact congrArg Option.some (Prod.ext l2 l3)
def O50(o:Obj):Bool:=match o with
 |⟨.none,none,.fields vs,sl⟩=>vs.isEmpty&&sl.isEmpty|_=>false
def w02(h:ï)(a:Æ):Option Obj:=match h.get? a with
 |some o=>if O50 o then none else some o|none=>none
def fragOf(h:ï):Frag:=(í h.objs.size).filterMap λa=>(w02 h a).map λo=>(a,o)
theorem t00(g:Æ->Option Obj)(a:Æ):∀ l:List Æ,(l.filterMap λa=>(g a).map λo=>(a,o)).lookup a=if a∈l then g a else none
 |[]=>rfl
 |b::r=>by
  by_cases hb:a=b
  ·subst hb;rw[if_pos Ë];cases hg:g a with
   |none =>
    rw[Á3,hg];show(r.filterMap λa=>(g a).map λo=>(a,o)).lookup a=none;rw[t00 g a r];split
    ·exact hg
    ·rfl
   |some o =>
    rw[Á3,hg];show Ê8 a ((a,o)::_)=some o;rw[List.lookup_cons_self]
  ·have hm:(a∈b::r)↔a∈r:=by rw[Ã4];exact⟨λh=>h.resolve_left hb,Or.inr⟩
   have ih:=t00 g a r;have e:(if a∈b::r then g a else none)=if a∈r then g a else none:=by simp only[hm]
   rw[e,← ih];cases hg:g b with
   |none=>rw[Á3,hg];rfl
   |some o =>
    rw[Á3,hg];show Ê8 a ((b,o)::_)=_;have:(a == b)=false:=by simpa using hb
    simp only[Ê8,this]
theorem q61(h:ï):(fragOf h).In h:=λa o e=>by
 unfold fragOf at e;rw[t00] at e;split at e
 ·unfold w02 at e;cases hg:h.get? a with
  |none=>rw[hg] at e;cases e
  |some u =>
   rw[hg] at e;dsimp only at e;split at e
   ·cases e
   ·exact e
 ·cases e
theorem T31(h:O50 o=true):o=tabObj #[]:=by
 unfold O50 at h;split at h
 ·rename_i vs sl;rw[Á,Array.isEmpty_iff,Array.isEmpty_iff] at h;obtain⟨rfl,rfl⟩:=h;rfl
 ·cases h
theorem e71(e:h.get? a=some o)(t:O50 o=true):(fragOf h).lookup a=none:=by
 unfold fragOf;rw[t00];split
 ·unfold w02;rw[e];exact if_pos t
 ·rfl
def q71(K:Frag)(x:Str):Option (Str × Str × Arguments × FuncBody × À3 × Æ × List (Str × Æ) × Ä × Æ × Bool):=match nsIn K ô x with
 |some (some (.ref at0))=>(match K.lookup at0 with
  |some ⟨_,_,.func fd,_⟩=>some (fd.name,fd.qualname,fd.params,fd.body,fd.scope,fd.globals,fd.closure,fd.defaults,fd.builtins,codeIn K fd.code x)
  |_=>none)
 |_=>none
def T41(x:Str)(st:Ã8):Option (Str × Str × Arguments × FuncBody × À3 × Æ × List (Str × Æ) × Ä × Æ × Bool):=some (x,x,F20 st,.stmts (m20 st),c70 st,ô,[],.none,builtinsNs,true)
theorem T50{K:Frag}{x:Str}{st:Ã8}(e:q71 K x=T41 x st):∃ f fd,nsIn K ô x=some (some (.ref f))/\Fun K x x st f fd/\∃ oc od sl,K.lookup f=some ⟨oc,od,.func fd,sl⟩:=by
 unfold q71 T41 at e;split at e
 ·rename_i f hf;split at e
  ·rename_i oc od fd sl hl;obtain⟨nm,qn,pm,bd,sc,gl,cl,df,kd,dc,py,an,cd,ct,bl⟩:=fd;simp only[Ñ4,Ñ3] at e;obtain⟨rfl,rfl,rfl,rfl,rfl,rfl,rfl,rfl,rfl,hc⟩:=e;exact⟨f,_,hf,⟨⟨oc,od,kd,dc,py,an,cd,ct,sl,rfl,hl,hc⟩,by simp only[keepIn,hl]⟩,oc,od,sl,hl⟩
  ·cases e
 ·cases e
def tab0At(h:ï)(T:Æ):Bool:=match h.get? T with
 |some o=>O50 o|none=>false
theorem q81{h:ï}{T:Æ}(e:tab0At h T=true):h.get? T=some (tabObj #[]):=by
 unfold tab0At at e;split at e
 ·rename_i o ho;rw[ho,T31 e]
 ·cases e
def q91(h:ï)(K:Frag)(x:Str):Option Addr:=match nsIn K ô x with
 |some (some (.ref at0))=>(match K.lookup at0 with
  |some ⟨_,_,.func fn0,_⟩=>(match fn0.code with
   |.ref c=>(match K.lookup c with
    |some ⟨_,_,.fields vs,_⟩=>(match (vs[11]?:Option Ä) with
     |some (.ref T)=>if codeHdIn K c T&&tab0At h T then some T else none
     |_=>none)
    |_=>none)
   |_=>none)
  |_=>none)
 |_=>none
theorem e81{h:ï}{K:Frag}{x:Str}{T:Æ}(e:q91 h K x=some T):h.get? T=some (tabObj #[])/\∃ f oc od fd sl c,nsIn K ô x=some (some (.ref f))/\K.lookup f=some ⟨oc,od,.func fd,sl⟩/\fd.code=.ref c/\codeHdIn K c T=true:=by
 unfold q91 at e;split at e
 ·rename_i f hf;split at e
  ·rename_i oc od fd sl hl;split at e
   ·rename_i c hc;split at e
    ·split at e
     ·rename_i T' _;split at e
      ·rename_i q;cases e;rw[Á] at q;obtain⟨q1,q2⟩:=q;exact⟨q81 q2,f,oc,od,fd,sl,c,hf,hl,hc,q1⟩
      ·cases e
     ·cases e
    ·cases e
   ·cases e
  ·cases e
 ·cases e
def e91(K:Frag)(x:Str):Option Addr:=match nsIn K ô x with
 |some (some (.ref f))=>some f|_=>none
theorem D01{K:Frag}{x:Str}{f:Æ}(e:e91 K x=some f):nsIn K ô x=some (some (.ref f)):=by
 unfold e91 at e;split at e
 ·cases e;assumption
 ·cases e
def r01(K:Frag)(C:Æ):Bool:=excIn K C [.type "ValueError",.type "Exception",.type "BaseException",.type "object"] "ValueError.__new__"
def J21(_:Str):Bool:=true
def T60(K:Frag)(x:Str):Option Int:=match nsIn K ô x with
 |some (some (.int i _))=>some i|_=>none
theorem T70{K:Frag}{x:Str}{i:Int}(e:T60 K x=some i):∃ t,nsIn K ô x=some (some (.int i t)):=by
 unfold T60 at e;split at e
 ·rename_i t h;cases e;exact⟨t,h⟩
 ·cases e
def T80(K:Frag)(x:Str):Bool:=match nsIn K ô x with
 |some none=>true|_=>false
theorem T90{K:Frag}{x:Str}(e:T80 K x=true):nsIn K ô x=some none:=by
 unfold T80 at e;split at e
 ·assumption
 ·cases e
structure m00 where
 ds:List (Str × Stmt)
 is:List (Str × Int)
 ns:List Str
 ms:List Str
 cs:List Str
def m00.obs(q:m00)(s:Å) :=
 let K:=fragOf s.heap
 (q.ds.map λd=>q71 K d.1,q.is.map λd=>T60 K d.1,q.ns.map (T80 K),q.ms.map λx=>(q91 s.heap K x).isSome,q.cs.map λx=>(e91 K x).map (r01 K),
  (specialIn K (.builtin "object.__class__") "__get__",takesIn K (.builtin "object.__class__")))
def m00.due(q:m00)(_:õ) :=
 (q.ds.map λd=>T41 d.1 d.2,q.is.map λd=>some d.2,q.ns.map λ_=>true,q.ms.map λ_=>true,q.cs.map λx=>some (J21 x),
  (some (some (Ä.builtin "getset_descriptor.__get__")),some true))
structure Facts(q:m00)(K:Frag)(h:Heap):Prop where
 fn:∀ d∈q.ds,∃ f fd,nsIn K mainGlobals d.1=some (some (.ref f))/\Fun K d.1 d.1 d.2 f fd/\∃ oc od sl,K.lookup f=some ⟨oc,od,.func fd,sl⟩
 it:∀ d∈q.is,∃ t,nsIn K mainGlobals d.1=some (some (.int d.2 t))
 no:∀ x∈q.ns,nsIn K mainGlobals x=some none
 mt:∀ x∈q.ms,∃ T,h.get? T=some (tabObj #[])/\K.lookup T=none/\∃ f oc od fd sl c,nsIn K mainGlobals x=some (some (.ref f))/\K.lookup f=some ⟨oc,od,.func fd,sl⟩/\fd.code=.ref c/\codeHdIn K c T=true
 cl:∀ x∈q.cs,∃ C,nsIn K mainGlobals x=some (some (.ref C))/\r01 K C=J21 x
 sp:specialIn K (.builtin "object.__class__") "__get__"=some (some (Value.builtin "getset_descriptor.__get__"))
 tk:takesIn K (.builtin "object.__class__")=some true
theorem O60{α β:Type}{f g:α->β}:∀ {l:List α},l.map f=l.map g->∀ a∈l,f a=g a:=λ{l} h a ha=>List.map_inj_left.mp h a ha
theorem m00.facts(q:m00)(w:õ)(s:Å)(e:q.obs s=q.due w):Facts q (fragOf s.heap) s.heap:=by
 unfold m00.obs m00.due at e;simp only[Ñ4] at e;obtain⟨e1,e2,e3,e4,e5,e6,e7⟩:=e;refine⟨λd hd=>T50 (O60 e1 d hd),λd hd=>T70 (O60 e2 d hd),λx hx=>T90 (O60 e3 x hx),λx hx=>?_,λx hx=>?_,e6,e7⟩
 ·obtain⟨T,hT⟩:=Ü2.mp (O60 e4 x hx);obtain⟨h1,h2⟩:=e81 hT;exact⟨T,h1,e71 h1 rfl,h2⟩
 ·obtain⟨C,h1,h2⟩:=Ê.mp (O60 e5 x hx);exact⟨C,D01 h1,h2⟩
def m00.hook(q:m00):Hook where
 α:=_
 obs:=q.obs
 val:=q.due
 says:=λ_ h=>∃ K:Frag,K.In h/\Facts q K h
 of:=λw s e=>⟨_,q61 _,q.facts w s e⟩
 keeps:=λ_ h h' ⟨K,X,F⟩ k=>⟨K,X.keeps k,⟨F.fn,F.it,F.no,λx hx=>let ⟨T,a,b⟩:=F.mt x hx;⟨T,k _ _ a,b⟩,F.cl,F.sp,F.tk⟩⟩
end L2
namespace Q
open PySem L2 PySem.Spec PyProof.Rows
structure Row where
 nm:Str
 ps:List Str
 st:Stmt
 N:List Str
 b:Sm
 lm:Bool
def r11(N ps:List Str)(sc:À3):Bool:=sc.kind == .function&&!sc.isCoroutine&&!sc.isGenerator&&decide N.Nodup&&N.take ps.length == ps&&ps.all (λx=>sc.names.lookup x == some .local || sc.names.lookup x == some .cell)&&sc.names.all λy=>y.2 != .free
theorem Y90(h:r11 N ps sc=true):p60 N ps sc:=by
 unfold r11 at h;simp only[Á,ú,beq_iff_eq,Á5,decide_eq_true_eq,Å5] at h;obtain⟨⟨⟨⟨⟨⟨h1,h2⟩,h3⟩,h4⟩,h5⟩,h6⟩,h7⟩:=h;exact⟨h1,h2,h3,h4,h5,h6,λy hy=>by simpa using h7 y hy⟩
def J31(r:Row):Prop:=∀ (kV doc pm:Ä) (an:Option Æ) (cdv ct:Ä) (us:List Ä),us.length=r.ps.length->bindArgs (fnOf r.nm r.nm (F20 r.st) (m20 r.st) (c70 r.st) .none kV doc pm an cdv ct) ⟨us,[]⟩=pure (r.ps.zip us)
def m70:List Row->Prop
 |[]=>True|r::l=>J31 r/\m70 l
theorem m70.at:∀ {l:List Row}{r:Row},m70 l->r∈l->J31 r
 |_::_,_,h,.head _=>h.1|_::_,_,h,.tail _ m=>m70.at h.2 m
theorem us1(h:us.length=1):∃ a,us=[a]:=List.length_eq_one_iff.mp h
theorem us2(h:us.length=2):∃ a b,us=[a,b]:=by
 match us,h with
 |[a,b],_=>exact⟨a,b,rfl⟩
theorem us3(h:us.length=3):∃ a b c,us=[a,b,c]:=by
 match us,h with
 |[a,b,c],_=>exact⟨a,b,c,rfl⟩
def W11(fns:List (Str × List Str))(nums:List (Str × Int))(cn:List Str)(r:Row):Bool:=mtS r.lm fns nums cn (c70 r.st) r.N r.b (m20 r.st)&&isQ r.b&&r.N.all (y10 (c70 r.st))&&r11 r.N r.ps (c70 r.st)
def C60(rows:List Row):List (Str × List Str):=rows.map λr=>(r.nm,r.ps)
def tabOf(rows:List Row):List Df:=rows.map λr=>Df.code r.ps.length r.N.length r.b
def O70(rows:List Row)(nums:List (Str × Int))(cn:List Str):m00:=⟨rows.map (λr=>(r.nm,r.st)),nums,Q61,[],cn⟩
def clsAt(K:Â)(cn:List Str)(c:Nat):Addr:=(e91 K (cn.getD c "")).getD 0
theorem h02{K:Â}{C:Æ}{cn:List Str}{c:Nat}{x:Str}(hc:cn[c]?=some x)(h:PySem.W.nsIn K ô x=some (some (.ref C))):clsAt K cn c=C:=by
 unfold clsAt;rw[Ù,hc];show(e91 K x).getD 0=C;unfold e91;rw[h];rfl
section
variable {P:â}{w:õ}{K:Â}{mg:Str->Option Ä}{base:ï}
theorem ok0(F:c11 P w K mg base (CX1 P w) k f fd ps sp):c11 P w K mg base CX0 k f fd ps (λvs H Q _=>sp vs H Q λ_ _ _=>False) :=
 ⟨λvs H Q E h=>F.len _ _ _ _ h,λA outer s H args us vs Q E hr he hb hv hs=>Ñ9 (F.run A outer s H args us vs Q _ hr he hb hv hs) λr s' h=>by
  cases r with
  |error e =>
   obtain⟨_,_,_,_,_,_,_,_,_,_,_,_,_,hE⟩:=h;exact hE.elim
  |ok fl=>cases fl <;> exact h⟩
theorem I92:TriplesOk (#[]:Array Ä).toList:=by first | trivial | (unfold TriplesOk;trivial)
theorem o60.noT[TB:Tb](h:o60 K H a xs):o60 K (hz none H) a xs:=by
 rcases h with (h | ⟨o,h⟩) | h
 ·exact .inl (.inl (c40 h (λq=>nomatch q)))
 ·exact .inl (.inr ⟨o,c40 h (λq=>nomatch q)⟩)
 ·exact .inr h
theorem h32[TB:Tb]{G:Gs}{T:List Df}{k f:Nat}{H:Hp}{a:Æ}{ns:List Int}(pure:c20 T k f [.d (.lst (ns.map D.int))] none=some (.ok (.d (.bl true)) none))(hH:∀ p∈TB.tb,H p.1=some (.tbl #[]))(hS:o60 K H a (ns.map V.int)) :
  spF K (lev G T k) f 1 [.ref a] H (λv _=>v=.bl true) λ_ _ _=>False:=by
 refine⟨rfl,none,none,[.d (.lst (ns.map D.int))],_,.cons ?_ .nil,⟨trivial,λp hp=>⟨#[],hH p hp,I92,λpos c e=>nomatch e⟩⟩,pure,λv H' x st rv=>Hd.bl_ (show Hd K (hz none H') (.bl true) v from rv)⟩;show Hd K (hz none H) (.lst (ns.map D.int)) (.ref a);unfold Hd;exact⟨a,ns.map V.int,rfl,hS.noT,HdA.ints ns⟩
end
theorem h42{rows:List Row}{f:Nat}{nm:Str}{ps:List Str}(h:(C60 rows)[f]?=some (nm,ps)):∃ r∈rows,rows[f]?=some r/\r.nm=nm/\r.ps=ps:=by
 unfold C60 at h;rw[Þ] at h;obtain⟨r,h1,h2⟩:=Ê.mp h;cases h2;exact⟨r,ê h1,h1,rfl,rfl⟩
section
variable [TB:Tb] {P:â}{w:õ}{K:Â}{h:ï}{mg:Str->Option Ä}{base:ï}{rows:List Row}{nums:List (Str × Int)}{cn:List Str}
theorem T51(Q:Facts (O70 rows nums cn) K h):∀ c x,cn[c]?=some x->PySem.W.nsIn K ô x=some (some (.ref (clsAt K cn c)))/\Ì7 K (clsAt K cn c) [.type "ValueError",.type "Exception",.type "BaseException",.type "object"] "ValueError.__new__"=true:=λc x hc=>by
 obtain⟨C,h1,h2⟩:=Q.cl x (ê hc);rw[h02 hc h1];exact⟨h1,h2⟩
theorem T61(X:K.In h)(Gn:h.Ns ô mg)(Q:Facts (O70 rows nums cn) K h)(ok:rows.all (W11 (C60 rows) nums cn)=true)(bd:m70 rows)(F0:FT):∀ k,GX P w K mg base (lev ⟨C60 rows,nums,F0,clsAt K cn,0⟩ (tabOf rows) k) cn:=by
 refine g92 (λp hp=>?_) (λn hn=>?_) (λc x hc=>?_) λf nm ps hf=>?_
 ·obtain⟨t,e⟩:=Q.it p hp;exact⟨t,mg_of X Gn e⟩
 ·exact PySem.W.mg_none_of X Gn (Q.no n hn)
 ·obtain⟨h1,h3⟩:=T51 Q c x hc;exact⟨mg_of X Gn h1,h3⟩
 ·obtain⟨r,hr,hr2,rfl,rfl⟩:=h42 hf;obtain⟨fa,fd,a1,F1,oc,od,sl,lk⟩:=Q.fn (r.nm,r.st) (Ð.mpr ⟨r,hr,rfl⟩);have rb:=ø.mp ok r hr;unfold W11 at rb;simp only[Á] at rb;obtain⟨⟨⟨b1,b2⟩,b3⟩,b4⟩:=rb;refine⟨fa,fd,mg_of X Gn a1,F1.kp,F1.binds (bd.at hr),.inl ⟨r.lm,r.N,r.st,r.b,?_,F1,Y90 b4,b3,b2,b1⟩⟩;unfold tabOf;rw[Þ,hr2];rfl
theorem h52(X:K.In h)(Gn:h.Ns ô mg)(Q:Facts (O70 rows nums cn) K h)(ok:rows.all (W11 (C60 rows) nums cn)=true)(bd:m70 rows)(F0:FT)(k:Nat){i:Nat}{r:Row}(hi:rows[i]?=some r){fa:Æ}{fd:É3}(F1:Fun K r.nm r.nm r.st fa fd):c11 P w K mg base (CX1 P w) (k + 3) fa fd r.ps (spF K (lev ⟨C60 rows,nums,F0,clsAt K cn,0⟩ (tabOf rows) (k + 3)) i r.ps.length):=by
 have hr:=ê hi;have rb:=ø.mp ok r hr;unfold W11 at rb;simp only[Á] at rb;obtain⟨⟨⟨b1,b2⟩,b3⟩,b4⟩:=rb;refine q31 (G:=lev ⟨C60 rows,nums,F0,clsAt K cn,0⟩ (tabOf rows) (k + 2)) (F':=S10 (tabOf rows) (k + 3)) (T61 X Gn Q ok bd F0 (k + 2)) F1 (Y90 b4) b3 b1 b2 λl z=>?_;show(match (tabOf rows)[i]? with | some d=>run (S10 (tabOf rows) (k + 2)) d l | none=>M.no) z=_
 unfold tabOf;rw[Þ,hi];rfl
end
theorem r21{P:â}{w:õ}{K:Â}{mg mb:Str->Option Ä}{k:Nat}{fa a:Æ}{fd:É3}{x:Str}{sp:Sp}{s₁:Å}{vs:List Ä}{ns:List Int}{ts:List Æ}
  (KX:K.In s₁.heap) (hns:s₁.heap.Ns ô mg) (hb:s₁.heap.Ns builtinsNs mb) (hbb:∀ x:Str,x≠"__name__"->mb x=ì x) (hlim:s₁.heap.NoLimit) (hg:s₁.gens=#[])
  (ha:s₁.heap.get? a=some { cls:=.type "list",data:=.seq vs.toArray }) (hi:É4 vs ns) (hl:ns.length<=sizeLine) (hr:K60 k Ú7)
  (hT:∀ Pt∈ts,s₁.heap.get? Pt=some (Ù2 #[])/\K.lookup Pt=none/\∃ c,Õ3 K c Pt=true) (bmn:BMain mg s₁.heap)
  (F:∀ base:ï,K.In base->base.Ns ô mg->BMain mg base->c11 P w K mg base CX0 k fa fd [x] sp) (hbind:∀ (s:Å) (u:Ä),BindsTo s fd ⟨[u],[]⟩ [(x,u)])
  (hsp:∀ H:Hp,(∀ Pt∈ts,H Pt=some (.tbl #[]))->o60 K H a (ns.map V.int)->sp [.ref a] H (λv _=>v=.bl true) λ_ _ _=>False) :
  Ï6 (Ø P w) Ú7 (.call (.ref fa) ⟨[.ref a],[]⟩) (λr s'=>r=.ok (.ret (.bool true))/\OldK s₁.heap s'.heap/\s'.os=s₁.os/\Ò3 s'.gens) s₁:=by
 have rv:=L80 hi;have lenV:=hi.length;have naT:a ∉ ts:=λh=>by have:=(hT a h).1;rw[ha] at this;cases this
 have core:∀ H:Hp,(∀ Pt∈ts,H Pt=some (.tbl #[]))->(∀ b,H b=none∨b∈ts∨(b=a/\∃ xs,H b=some (.frz { cls:=.type "list",data:=.seq vs.toArray } (.lst xs))))->o60 K H a (ns.map V.int)->HOk P w H s₁.heap->(H a≠none->K.lookup a=none) ->
   Ï6 (Ø P w) Ú7 (.call (.ref fa) ⟨[.ref a],[]⟩) (λr s'=>r=.ok (.ret (.bool true))/\OldK s₁.heap s'.heap/\s'.os=s₁.os/\Ò3 s'.gens) s₁:=by
  intro H hH hO hS hok hK;have plainN:∀ {b:Æ}{o:Obj},s₁.heap.get? b=some o->(∀ xs n,o.data≠.seq xs n)->(∀ xs,o.data≠.fields xs)->H b=none:=λ{b o} e d1 d2=>by
   rcases hO b with z | z | ⟨z,_⟩
   ·exact z
   ·have:=(hT b z).1;rw[e] at this;cases this;exact absurd rfl (d2 _)
   ·rw[z,ha] at e;cases e;exact absurd rfl (d1 _ _)
  have nsK:∀ {b:Æ}{m:Str->Option Ä},s₁.heap.Ns b m->(w41 s₁.heap H).Ns b m:=λ{b m} ⟨o,es,ep,e,d,r⟩=>⟨o,es,ep,E60 e (plainN e (λxs n z=>by rw[d] at z;cases z) λxs z=>by rw[d] at z;cases z),d,r⟩
  have hKb:K.In (w41 s₁.heap H):=λb o e=>E60 (KX b o e) (by
   rcases hO b with z | z | ⟨z,xs,z2⟩
   ·exact z
   ·rw[(hT b z).2.1] at e;cases e
   ·rw[z] at e z2;rw[hK (by rw[z2];exact λy=>nomatch y)] at e;cases e)
  have hM:Mod K mg (w41 s₁.heap H):=⟨hKb,nsK hns,⟨mb,nsK hb,hbb⟩,let ⟨mc,h1,h2⟩:=hlim;⟨mc,nsK h1,h2⟩⟩;have hBM:BMain mg (w41 s₁.heap H):=by
   obtain⟨bm,ob,b1,b2,b3,b4,b5,b6⟩:=bmn;exact⟨bm,ob,b1,b2,E60 b3 (plainN b3 (λxs n z=>by rw[b6] at z;cases z) λxs z=>by rw[b6] at z;cases z),b4,b5,b6⟩
  have e0:k32 P w K mg (w41 s₁.heap H) Ú7 [] s₁ H:=⟨rfl,hM,λb o e=>J91 e,Ö4 (f81 _ _),trivial,λb hb=>absurd (show b∈([]:List Æ) from hb) (by simp),hok,.of_eq hg⟩
  refine Ñ9 ((F _ hKb (nsK hns) hBM).run Ú7 [] s₁ H ⟨[.ref a],[]⟩ [.ref a] [.ref a] _ _ hr e0 (hbind s₁ (.ref a)) (.cons rfl .nil) (hsp H hH hS)) λr s' h=>?_;cases r with
  |error e=>exact Å1 h
  |ok fl =>
   cases fl with
   |next=>exact Å1 h
   |brk=>exact Å1 h|cont=>exact Å1 h
   |ret u =>
    obtain⟨v,H',os,bare,un,hok',r',q⟩:=h;have q':v=.bl true:=q;subst q';obtain rfl:u=Å8 true:=r';refine⟨rfl,⟨λb o e=>?_,λb o e=>un.there b o e (by simp)⟩,os,bare⟩
    rcases hO b with z | z | ⟨z,xs,z2⟩
    ·exact .inl (un.keep b o e z (by intro y;exact absurd (show b∈([]:List Æ) from y) (by simp)) (by simp))
    ·obtain⟨t1,_,c,t2⟩:=hT b z;rw[e] at t1;cases t1;obtain⟨more,m1⟩:=un.tbls b _ (hH b z);have m2:s'.heap.get? b=some { cls:=.none,data:=.fields (#[]++more) }:=hok' b _ m1;have CH:=PySem.W.codeHd_of_K KX t2;exact .inr (.inl ⟨(CH.tab e).isCodeTable,rfl,#[],more,rfl,m2⟩)
    ·have z3:=un.frzs b _ _ z2;obtain⟨e1,_⟩:=hok b _ z2;obtain⟨e2,_⟩:=hok' b _ z3;rw[e] at e1;cases e1;exact .inl e2
 cases hk:K.lookup a with
 |some o =>
  have e:=KX a o hk;rw[ha] at e;cases e;refine core (λb=>if b∈ts then some (.tbl #[]) else none) (λPt h=>if_pos h) (λb=>?_) (.inr ⟨vs.toArray,_,hk,by rw[Ó,lenV];exact hl,by simpa using rv⟩) (λb u z=>?_) λz=>absurd (if_neg naT) z
  ·by_cases h:b∈ts
   ·exact .inr (.inl h)
   ·exact .inl (if_neg h)
  ·by_cases h:b∈ts
   ·have z':=(if_pos h).symm.trans z;cases z';exact(hT b h).1
   ·have z':=(if_neg h).symm.trans z;cases z'
 |none =>
  refine core (λb=>if b=a then some (.frz { cls:=.type "list",data:=.seq vs.toArray } (.lst (ns.map V.int))) else if b∈ts then some (.tbl #[]) else none) (λPt h=>?_) (λb=>?_) (.inl (.inr ⟨{ cls:=.type "list",data:=.seq vs.toArray },if_pos rfl⟩)) (λb u z=>?_) λ_=>hk
  ·rw[if_neg (λy=>naT (by rw[← y];exact h)),if_pos h]
  ·by_cases hb:b=a
   ·exact .inr (.inr ⟨hb,_,if_pos hb⟩)
   ·by_cases h:b∈ts
    ·exact .inr (.inl h)
    ·exact .inl (by rw[if_neg hb,if_neg h])
  ·by_cases hb:b=a
   ·have z':=(if_pos hb).symm.trans z;cases z';subst hb;exact⟨ha,by rw[È];exact hl,vs,_,rv,ha⟩
   ·replace z:=(if_neg hb).symm.trans z
    by_cases h:b∈ts
    ·have z':=(if_pos h).symm.trans z;cases z';exact(hT b h).1
    ·have z':=(if_neg h).symm.trans z;cases z'
theorem D11{l:PySem.W.OpenLaw}{n k:Nat}{q:â}{loose:List Str}{XP:(Str->Option Ä)->ï->Prop}{d:DefRec}{A:m00}{x:Str}
  (hn:l.most=some n) (hn2:n<=sizeLine) (hdf:d.params.defaults=[]) (hr:K60 k Ú7)
  (F:∀ (w:õ) (mg:Str->Option Ä) (fa:Æ) (h:ï) (K:Â),Facts A K h->K.In h->h.Ns ô mg->mg d.name=some (.ref fa) ->
   ∃ (fd:É3) (ts:List Æ) (sp:Sp),(∀ Pt∈ts,h.get? Pt=some (Ù2 #[])/\K.lookup Pt=none/\∃ c,Õ3 K c Pt=true)/\(∀ (s:Å) (u:Ä),BindsTo s fd ⟨[u],[]⟩ [(x,u)]) /\
    (∀ base:ï,K.In base->base.Ns ô mg->BMain mg base->c11 l.prog w K mg base CX0 k fa fd [x] sp) /\
    ∀ (H:Hp) (a:Æ) (ns:List Int),ns.length<=n->(∀ Pt∈ts,H Pt=some (.tbl #[]))->o60 K H a (ns.map V.int)->sp [.ref a] H (λv _=>v=.bl true) λ_ _ _=>False) :
  PySem.W.WalkO q loose XP A.hook.says l.row.toRowW d [] (λf vs=>PySem.call f vs):=by
 refine Att.R00 hn hdf λw s₀ s₁ mg mb fa o pm cd doc a vs ns G Y ho hd hcd hmg hobj hints hlen hg=>?_;obtain⟨K,KX,FX⟩:=Y;obtain⟨fd,ts,sp,hT,hb,hF,hsp⟩:=F w mg fa _ K FX KX G.T.g hmg;exact r21 KX G.T.g G.T.b G.T.builtins G.T.nolimit hg hobj hints (Ô hlen hn2) hr hT G.T.bmain hF hb λH hH hS=>hsp H a ns hlen hH hS
theorem T71{l:PySem.W.OpenLaw}{rows:List Row}{nums:List (Str × Int)}{cn:List Str}{k iL n:Nat}{rL:Row}(ok:rows.all (W11 (C60 rows) nums cn)=true)(bd:m70 rows)(hL:rows[iL]?=some rL)(hn:rL.nm="law")(hp:rL.ps=[("_law_script":Str)])
  (pure:∀ ns:List Int,ns.length<=n->c20 (tabOf rows) (k + 3) iL [.d (.lst (ns.map D.int))] none=some (.ok (.d (.bl true)) none)) (w:õ) (mg:Str->Option Ä) (fa:Æ) (h:ï) (K:Â) (Q:Facts (O70 rows nums cn) K h) (X:K.In h) (Gn:h.Ns ô mg) (hfa:mg "law"=some (.ref fa)) :
   ∃ (fd:É3) (ts:List Æ) (sp:Sp),(∀ Pt∈ts,h.get? Pt=some (Ù2 #[])/\K.lookup Pt=none/\∃ c,Õ3 K c Pt=true)/\(∀ (s:Å) (u:Ä),BindsTo s fd ⟨[u],[]⟩ [("_law_script",u)]) /\
    (∀ base:ï,K.In base->base.Ns ô mg->BMain mg base->c11 l.prog w K mg base CX0 (k + 3) fa fd ["_law_script"] sp) /\
    ∀ (H:Hp) (a:Æ) (ns:List Int),ns.length<=n->(∀ Pt∈ts,H Pt=some (.tbl #[]))->o60 K H a (ns.map V.int)->sp [.ref a] H (λv _=>v=.bl true) λ_ _ _=>False:=by
 have hrL:rL∈rows:=ê hL;obtain⟨fL,fdL,aL,FL,ocL,odL,slL,lkL⟩:=Q.fn (rL.nm,rL.st) (Ð.mpr ⟨rL,hrL,rfl⟩);have bL:=bd.at hrL;have e:=hfa.symm.trans (mg_of X Gn (by rw[← hn];exact aL))
 cases e;have bT:∀ (s:Å) (u:Ä),BindsTo s fdL ⟨[u],[]⟩ [("_law_script",u)]:=by
  obtain⟨_,_,kV,doc,pm,an,cdv,ct,_,e,_,_⟩:=FL.ex;subst e;intro s u;have:=bL kV doc pm an cdv ct [u] (by rw[hp];rfl)
  rw[hp] at this;exact .of_eq this
 let TB:Tb:=⟨[]⟩
 refine⟨fdL,[],λvs H Q _=>spF K (lev ⟨C60 rows,nums,λ_ _ _=>M.no,clsAt K cn,0⟩ (tabOf rows) (k + 3)) iL 1 vs H Q λ_ _ _=>False,λp hp=>(nomatch hp),bT,λbase kb nb bm=>?_,λH a ns hl hH hS=>h32 (pure ns hl) (λp hp=>nomatch hp) hS⟩;have F:=ok0 (h52 (P:=l.prog) (w:=w) (base:=base) X Gn Q ok bd (λ_ _ _=>M.no) k hL FL);rw[hp] at F;exact F
end Q
namespace Q
open L2 (D)
open PySem (Paired)
def Z00:Ex->Bool
 |.var _=>false|_=>true
def J02:Ex->Env->Option (Option S)
 |.var i,ρ=>ρ[i]?|_,_=>none
def z62:Option (Option S)->Option S
 |some (some s)=>noS s|_=>none
def blS:S->Option Bool
 |.d (.bl b)=>some b|_=>none
abbrev Du{α:Type}(_:α->Z->Prop)(_:Nat->Z->Prop):Type:=Unit
abbrev Dv{α:Type}(_:α->Prop):Type:=Unit
structure W{α:Type}(m:M α)(z:Z)(Q:α->Z->Prop)(E:Nat->Z->Prop)(du:Du Q E:=()):Prop where
 ex:∃ r,m z=some r/\match r with
  |.ok a z1=>Q a z1|.er c z1=>E c z1
theorem W_e{α:Type}{m:M α}{Q:α->Z->Prop}:W m z Q E↔∃ r,m z=some r/\match r with
  |.ok a z1=>Q a z1|.er c z1=>E c z1:=⟨W.ex,W.mk⟩
abbrev NE:Nat->Z->Prop:=λ_ _=>False
def Get{α:Type}(o:Option α)(P:α->Prop)(_:Dv P:=()):Prop:=match o with
 |some a=>P a|none=>False
theorem h62{α:Type}{a:α}{P:α->Prop}:Get (some a) P↔P a:=Iff.rfl
theorem m80{α:Type}{o:Option α}{P:α->Prop}(h:Get o P):∃ a,o=some a/\P a:=by
 cases o with
 |none=>exact h.elim|some a=>exact⟨a,rfl,h⟩
theorem a20{α:Type}{o:Option α}{a:α}{P:α->Prop}(h:o=some a)(hp:P a):Get o P:=by rw[h];exact hp
section
variable {α β:Type}{m:M α}{z z1:Z}{Q Q':α->Z->Prop}{E E':Nat->Z->Prop}
theorem W.mono(h:W m z Q E)(hq:∀ a z,Q a z->Q' a z)(he:∀ c z,E c z->E' c z):W m z Q' E':=by
 obtain⟨r,e,h⟩:=h;refine⟨r,e,?_⟩;cases r with
 |ok a z1=>exact hq _ _ h|er c z1=>exact he _ _ h
theorem W.imp(h:W m z Q NE)(hq:∀ a z,Q a z->Q' a z):W m z Q' E':=h.mono hq λ_ _ h=>h.elim
theorem W.ok{a:α}(h:W m z (λb z2=>b=a/\z2=z1) NE):m z=some (.ok a z1):=by
 obtain⟨r,e,h⟩:=h;cases r with
 |ok b z2=>obtain⟨rfl,rfl⟩:=h;exact e
 |er c z2=>exact h.elim
theorem z72{a:α}(h:m z=some (.ok a z1)):W m z Q E↔Q a z1:=by
 rw[W_e];constructor
 ·rintro ⟨r,e,q⟩;rw[h] at e;cases e;exact q
 ·exact λq=>⟨_,h,q⟩
theorem J12{c:Nat}(h:m z=some (.er c z1)):W m z Q E↔E c z1:=by
 rw[W_e];constructor
 ·rintro ⟨r,e,q⟩;rw[h] at e;cases e;exact q
 ·exact λq=>⟨_,h,q⟩
theorem C70{a:α}:W (M.ret a) z Q E↔Q a z:=z72 rfl
theorem h72:W (M.no:M α) z Q E↔False:=⟨λ⟨_,e,_⟩=>(by cases e),Å1⟩
theorem t10{f:α->M β}{Q:β->Z->Prop}:W (M.bind m f) z Q E↔W m z (λa z1=>W (f a) z1 Q E) E:=by
 constructor
 ·rintro ⟨r,e,q⟩;unfold M.bind at e;split at e
  ·rename_i a z1 e1;exact⟨_,e1,r,e,q⟩
  ·rename_i c z1 e1;cases e;exact⟨_,e1,q⟩
  ·cases e
 ·rintro ⟨r,e,q⟩;cases r with
  |ok a z1 =>
   obtain⟨r,e2,q⟩:=q;refine⟨r,?_,q⟩;unfold M.bind;rw[e];exact e2
  |er c z1 =>
   refine⟨.er c z1,?_,q⟩;unfold M.bind;rw[e]
theorem J41:W (M.calm m) z Q E↔W m z Q NE:=by
 rw[W_e,W_e];unfold M.calm;constructor
 ·rintro ⟨r,e,q⟩;split at e
  ·rename_i a z1 e1;cases e;exact⟨_,e1,q⟩
  ·cases e
 ·rintro ⟨r,e,q⟩;cases r with
  |ok a z1=>exact⟨.ok a z1,by rw[e],q⟩|er c z1=>exact q.elim
theorem T81(h:∀ a z,Q a z↔Q' a z):W m z Q E↔W m z Q' E:=⟨λx=>x.mono (λa z=>(h a z).mp) λ_ _ h=>h,λx=>x.mono (λa z=>(h a z).mpr) λ_ _ h=>h⟩
theorem wR{a:α}:Q a z↔W (M.ret a) z Q E:=C70.symm
theorem wN:False↔W (M.no:M α) z Q E:=h72.symm
theorem wT{c:Prop}[Decidable c]{a b:M α}{A B:Prop}(h1:A↔W a z Q E)(h2:B↔W b z Q E):(if c then A else B)↔W (if c then a else b) z Q E:=by
 split <;> assumption
theorem wG{o:Option β}{f:β->M α}{K:β->Prop}(h:∀ a,K a↔W (f a) z Q E):Get o K↔W (M.bind (M.of o) f) z Q E:=by
 cases o with
 |none=>exact h72.symm|some a=>exact h a
theorem wB{m:M β}{f:β->M α}{V:Prop}{K:β->Z->Prop}(h1:V↔W m z K E)(h2:∀ a z1,K a z1↔W (f a) z1 Q E):V↔W (M.bind m f) z Q E:=h1.trans ((T81 h2).trans t10.symm)
end
def Wm{α:Type}(o:Option (R α))(Q:α->Z->Prop)(E:Nat->Z->Prop):Prop:=match o with
 |some (.ok a z1)=>Q a z1|some (.er c z1)=>E c z1|none=>False
theorem wM{α:Type}{m:M α}{z:Z}{Q:α->Z->Prop}{E:Nat->Z->Prop}:Wm (m z) Q E↔W m z Q E:=by
 rw[W_e];unfold Wm;cases h:m z with
 |none=>exact⟨Å1,λ⟨_,e,_⟩=>by cases e⟩
 |some r =>
  refine⟨λq=>⟨r,rfl,?_⟩,λ⟨_,e,q⟩=>?_⟩
  ·cases r <;> exact q
  ·cases e;cases r <;> exact q
def Vr(o:Option (Option S))(z:Z)(Q:List S->Z->Prop)(_:Du Q NE:=()):Prop:=match o with
 |some (some s)=>Q [plS s] z|_=>False
def WV:FT->Ex->Env->Z->(List S->Z->Prop)->(Nat->Z->Prop)->Prop
 |F,.nil=>λρ z Q E=>Q [] z|F,.cons a r=>λρ z Q E=>WV F a ρ z (λx z1=>Get (one x) λs=>WV F r ρ z1 (λy z2=>Q (s::y) z2) E) E|F,.con x=>λρ z Q E=>Q [.d x] z|F,.gint g i=>λρ z Q E=>Q [.d (.int i)] z|F,.tup as=>λρ z Q E=>WV F as ρ z (λl z1=>Get (plA l) λds=>if ds.length<=most then Q [.d (.tup ds)] z1 else False) E|F,.lst as=>λρ z Q E=>WV F as ρ z (λl z1=>Get (plA l) λds=>if ds.length<=most then Q [.fr ds] z1 else False) E|F,.bin o a b=>λρ z Q E=>WV F a ρ z (λx z1=>Get (pl x) λdx=>WV F b ρ z1 (λy z2=>Get (pl y) λdy=>Get (M60 o dx dy) λs=>Q [s] z2) E) E|F,.cmp o a b=>λρ z Q E=>WV F a ρ z (λx z1=>Get (pl x) λdx=>WV F b ρ z1 (λy z2=>Get (pl y) λdy=>Get (C50 o dx dy) λt=>Q [.d (.bl t)] z2) E) E|F,.neg a=>λρ z Q E=>WV F a ρ z (λx z1=>Get ((pl x).bind asI) λi=>Q [.d (.int (-i))] z1) E|F,.not a=>λρ z Q E=>WV F a ρ z (λx z1=>Get ((pl x).bind asB) λb=>Q [.d (.bl !b)] z1) E|F,.and a b=>λρ z Q E=>WV F a ρ z (λx z1=>Get ((pl x).bind asB) λc=>if c then WV F b ρ z1 (λy z2=>Get ((pl y).bind asB) λc=>Q [.d (.bl c)] z2) E else Q [.d (.bl false)] z1) E|F,.or a b=>λρ z Q E=>WV F a ρ z (λx z1=>Get ((pl x).bind asB) λc=>if c then Q [.d (.bl true)] z1 else WV F b ρ z1 (λy z2=>Get ((pl y).bind asB) λc=>Q [.d (.bl c)] z2) E) E|F,.orT a b=>λρ z Q E=>WV F a ρ z (λx z1=>Get ((pl x).bind b12) λl=>if l.isEmpty then WV F b ρ z1 (λy z2=>Get ((pl y).bind b12) λl=>Q [.d (.tup l)] z2) NE else Q [.d (.tup l)] z1) NE|F,.ite c a b=>λρ z Q E=>WV F c ρ z (λx z1=>Get ((pl x).bind asB) λc=>if c then WV F a ρ z1 Q E else WV F b ρ z1 Q E) E|F,.ch o o' a b c=>λρ z Q E=>WV F a ρ z (λx z1=>Get (pl x) λdx=>WV F b ρ z1 (λy z2=>Get (pl y) λdy=>Get (C50 o dx dy) λt=>if t then WV F c ρ z2 (λw z3=>Get (pl w) λdw=>Get (C50 o' dy dw) λt=>Q [.d (.bl t)] z3) E else Q [.d (.bl false)] z2) E) E|F,.bf f as=>λρ z Q E=>WV F as ρ z (λl z1=>Get (plA l) λds=>Get (bfD f ds) λs=>Q [s] z1) E|F,.isi t a=>λρ z Q E=>WV F a ρ z (λx z1=>Get (pl x) λx=>Q [.d (.bl (k92 t x))] z1) E|F,.idx a i=>λρ z Q E=>WV F a ρ z (λx z1=>Get (pl x) λdx=>WV F i ρ z1 (λy z2=>Get (pl y) λdy=>Get (l81 dx dy) λr=>Q [.d r] z2) E) E|F,.sl a lo hi=>λρ z Q E=>WV F a ρ z (λx z1=>Get (pl x) λdx=>WV F lo ρ z1 (λu z2=>Get (l91 u) λu=>WV F hi ρ z2 (λv z3=>Get (l91 v) λv=>Get (slD dx u v) λs=>Q [s] z3) E) E) E|F,.call f as=>λρ z Q E=>WV F as ρ z (λl z1=>W (F false f (l.map plS)) z1 (λs z2=>Q [s] z2) E) E|F,.comp own capt p it src cond el=>λρ z Q E=>WV F src ρ z (λl z1=>Get ((plA l).bind (itD it)) λxs=>if xs.length<=most then W (turns (o50 (ev F cond) (ev F el) p (ë own none++capt.map λi=>(ρ[i]?).getD none)) xs) z1 (λys z2=>Q [.fr ys] z2) NE else False) E|F,.lrng b as=>λρ z Q E=>WV F as ρ z (λl z1=>Get ((plA l).bind lrD) λxs=>Q [lrS b xs] z1) E|F,.dkeys a=>λρ z Q E=>WV F a ρ z (λl z1=>Get ((pl l).bind O31) λkss=>Q [.ks kss] z1) E|F,.memk o a i=>λρ z Q E=>WV F a ρ z (λl z1=>Get ((pl l).bind V61) λk=>Get (q02 ρ[i]?) λkss=>Q [.d (.bl (kss.contains k == o))] z1) E|F,.var i=>λρ z Q E=>Vr ρ[i]? z Q|F,.zget i k=>λρ z Q E=>Wm (m01 k ρ[i]? z) Q E
def WE(F:FT)(e:Ex)(ρ:Env)(z:Z)(Q:List S->Z->Prop)(E:Nat->Z->Prop)(_:Du Q E:=()):Prop:=WV F e ρ z Q E
def WX(F:FT)(tp:Bool):Sm->Env->Z->(O->Z->Prop)->(Nat->Z->Prop)->Prop
 |.nil=>λρ z Q E=>Q (.nx ρ) z
 |.seq s r=>λρ z Q E=>WX F tp s ρ z (λo z1=>match o with
  |.nx ρ=>WX F tp r ρ z1 Q E
  |.rt s=>Q (.rt s) z1) E
 |.set p e=>λρ z Q E=>WE F e ρ z (λl z1=>Get (one l) λs=>Get (G90 p s (k10 s ρ)) λρ'=>Q (.nx ρ') z1) E|.ret e=>λρ z Q E=>if Z00 e then WE F e ρ z (λl z1=>Get ((one l).bind noS) λs=>Q (.rt s) z1) E else Get (z62 (J02 e ρ)) λs=>Q (.rt s) z|.iff c t e=>λρ z Q E=>WE F c ρ z (λx z1=>Get ((pl x).bind asB) λb=>if b then WX F tp t ρ z1 Q E else WX F tp e ρ z1 Q E) E|.exp e=>λρ z Q E=>WE F e ρ z (λl z1=>Get (one l) λ_=>Q (.nx ρ) z1) E|.rais c=>λρ z Q E=>E c z|.fr p it src b=>λρ z Q E=>WE F src ρ z (λl z1=>Get ((plA l).bind (itD it)) λxs=>W (Q20 (λx ρ=>M.bind (M.of (e40 p x ρ)) λρ=>ex F tp b ρ) xs (m41 it src l ρ)) z1 Q E) E|.whl c b=>λρ z Q E=>W (V71 (ev F c) (ex F tp b) q12 ρ) z Q E|.grp i j k src=>λρ z Q E=>if i < ρ.length/\j < ρ.length/\k < ρ.length then WE F (.cons src .nil) (ρ.set i none) z (λl z1=>Get ((plA l).bind O41) λs=>Q (.rt s) z1) E else False|.zset i e=>λρ z Q E=>WE F e ρ z (λl z1=>Get ((pl l).bind asI) λv=>Wm (m61 ρ v ρ[i]? z1) Q E) E|.app i e=>λρ z Q E=>Get (ownAt ρ i) λxs=>WE F e ρ z (λl z1=>Get (pl l) λx=>if bare x=true/\xs.length < most then Q (.nx (ρ.set i (some (.fr (xs++[x]))))) z1 else False) E|.newz i f as=>λρ z Q E=>WE F (.call f as) ρ z (λl z1=>Wm (m51 tp ρ i l) Q E) E
def WS(F:FT)(tp:Bool)(s:Sm)(ρ:Env)(z:Z)(Q:O->Z->Prop)(E:Nat->Z->Prop)(_:Du Q E:=()):Prop:=WX F tp s ρ z Q E
theorem h82:∀ (e:Ex) {F:FT}{ρ:Env}{z:Z}{Q:List S->Z->Prop}{E:Nat->Z->Prop},WV F e ρ z Q E↔W (ev F e ρ) z Q E:=by
 intro e
 induction e with
 |nil=>intros;exact wR|cons a r ha hr=>intros;exact wB ha λx z1=>wG λs=>wB hr λy z2=>wR
 |var i =>
  intro F ρ z Q E;show Vr ρ[i]? z Q↔W (match ρ[i]? with | some (some s)=>M.ret [plS s] | _=>M.no) z Q E
  generalize ρ[i]?=o
  match o with
  |some (some s)=>exact wR|some none=>exact wN|none=>exact wN
 |con x=>intros;exact wR|gint g i=>intros;exact wR|tup a ha=>intros;exact wB ha λl z1=>wG λds=>wT wR wN|lst a ha=>intros;exact wB ha λl z1=>wG λds=>wT wR wN|bin o a b ha hb=>intros;exact wB ha λx z1=>wG λdx=>wB hb λy z2=>wG λdy=>wG λs=>wR|cmp o a b ha hb=>intros;exact wB ha λx z1=>wG λdx=>wB hb λy z2=>wG λdy=>wG λs=>wR|neg a ha=>intros;exact wB ha λx z1=>wG λi=>wR|not a ha=>intros;exact wB ha λx z1=>wG λi=>wR|and a b ha hb=>intros;exact wB ha λx z1=>wG λc=>wT (wB hb λy z2=>wG λc=>wR) wR|or a b ha hb=>intros;exact wB ha λx z1=>wG λc=>wT wR (wB hb λy z2=>wG λc=>wR)|orT a b ha hb=>intros;refine Iff.trans ?_ J41.symm;exact wB ha λx z1=>wG λl=>wT (wB hb λy z2=>wG λl=>wR) wR|ite c a b hc ha hb=>intros;exact wB hc λx z1=>wG λc=>wT ha hb|ch o o' a b c ha hb hc=>intros;exact wB ha λx z1=>wG λdx=>wB hb λy z2=>wG λdy=>wG λt=>wT (wB hc λw z3=>wG λdw=>wG λt=>wR) wR|bf f a ha=>intros;exact wB ha λl z1=>wG λds=>wG λs=>wR|isi t a ha=>intros;exact wB ha λx z1=>wG λx=>wR|idx a i ha hi=>intros;exact wB ha λx z1=>wG λdx=>wB hi λy z2=>wG λdy=>wG λr=>wR|sl a l h ha hl hh=>intros;exact wB ha λx z1=>wG λdx=>wB hl λu z2=>wG λu=>wB hh λv z3=>wG λv=>wG λs=>wR|call f a ha=>intros;exact wB ha λl z1=>wB Iff.rfl λs z2=>wR|comp own capt p it src cond el hs hc he=>intros;exact wB hs λl z1=>wG λxs=>wT (wB J41.symm λys z2=>wR) wN|zget i k=>intros;exact wM (m:=m01 k _)|lrng b a ha=>intros;exact wB ha λl z1=>wG λxs=>wR|dkeys a ha=>intros;exact wB ha λl z1=>wG λxs=>wR|memk o a i ha=>intros;exact wB ha λl z1=>wG λk=>wG λxs=>wR
theorem c90{e:Ex}{F:FT}{ρ:Env}{z:Z}{Q:List S->Z->Prop}{E:Nat->Z->Prop}:WE F e ρ z Q E↔W (ev F e ρ) z Q E:=h82 e
theorem w12{F:FT}{tp:Bool}{ρ:Env}{e:Ex}(h:Z00 e=true):ex F tp (.ret e) ρ=M.bind (ev F e ρ) λl=>M.bind (M.of ((one l).bind noS)) λs=>M.ret (.rt s):=by
 cases e with
 |var i=>cases h
 |_=>rfl
theorem h92{F:FT}{tp:Bool}:∀ (s:Sm) {ρ:Env}{z:Z}{Q:O->Z->Prop}{E:Nat->Z->Prop},WX F tp s ρ z Q E↔W (ex F tp s ρ) z Q E:=by
 intro s
 induction s with
 |nil=>intros;exact wR
 |seq s r hs hr =>
  intros;refine wB hs λo z1=>?_;cases o with
  |nx ρ=>exact hr|rt s=>exact wR
 |set p e=>intros;exact wB c90 λl z1=>wG λs=>wG λρ'=>wR
 |ret e =>
  intro ρ z Q E;show(if Z00 e then _ else _)↔_;cases h:Z00 e with
  |true =>
   refine(iff_of_eq (if_pos rfl)).trans ?_;rw[w12 h];exact wB c90 λl z1=>wG λs=>wR
  |false =>
   cases e with
   |var i =>
    refine(iff_of_eq (if_neg Ò)).trans ?_;show Get (z62 ρ[i]?) _↔W (match ρ[i]? with | some (some s)=>M.bind (M.of (noS s)) λs=>M.ret (O.rt s) | _=>M.no) z Q E
    generalize ρ[i]?=o
    match o with
    |some (some s)=>exact wG λs=>wR|some none=>exact wN|none=>exact wN
   |_=>cases h
 |iff c t u ht hu=>intros;exact wB c90 λx z1=>wG λc=>wT ht hu|exp e=>intros;exact wB c90 λl z1=>wG λs=>wR|rais c=>intros;exact(J12 rfl).symm|fr p it src b ih=>intros;exact wB c90 λl z1=>wG λxs=>Iff.rfl|whl c b ih=>intros;exact Iff.rfl|grp i j k src=>intros;exact wT (wB c90 λl z1=>wG λs=>wR) wN|zset i e=>intros;exact wB c90 λl z1=>wG λv=>wM (m:=m61 _ v _)|app i e=>intros;exact wG λxs=>wB c90 λl z1=>wG λx=>wT wR wN|newz i f as=>intros;exact wB c90 λl z1=>wM (m:=λ_=>m51 tp _ i l)
theorem Z10:WS F tp s ρ z Q E↔W (ex F tp s ρ) z Q E:=h92 s
theorem WS.mono{s:Sm}{F:FT}{tp:Bool}{ρ:Env}{z:Z}{Q Q':O->Z->Prop}{E E':Nat->Z->Prop}(h:WS F tp s ρ z Q E)(hq:∀ a z,Q a z->Q' a z)(he:∀ c z,E c z->E' c z):WS F tp s ρ z Q' E':=Z10.mpr (W.mono (Z10.mp h) hq he)
theorem i02(Mid:Env->Z->Prop)(h:WS F tp s ρ z (λo z1=>match o with
  |.nx ρ=>Mid ρ z1
  |.rt s=>Q (.rt s) z1) E) (h2:∀ ρ z,Mid ρ z->WS F tp r ρ z Q E):WS F tp (.seq s r) ρ z Q E:=by
 refine WS.mono (s:=s) h (λo z1 h=>?_) λ_ _ h=>h;cases o with
 |nx ρ=>exact h2 ρ z1 h|rt s=>exact h
section
variable {T:List Df}{k f ps ns:Nat}{b:Sm}{l:List S}{z:Z}{Q:S->Z->Prop}{E:Nat->Z->Prop}
theorem i22(h:T[f]?=some (.code ps ns b))(hl:l.length=ps)(hn:ps<=ns):W (c20 T (k + 3) f l) z Q E↔WS (S10 T (k + 2)) z.isNone b (start ns (l.map plS)) z (λo z1=>match o with
  |.nx _=>Q (.d .non) (H00 z z1)
  |.rt s=>Q s (H00 z z1)) λc z1=>E c (H00 z z1):=by
 refine Iff.trans ?_ Z10.symm;rw[S20,h];show W (λz=>if l.length=ps/\ps<=ns then(match ex (S10 T (k + 2)) z.isNone b (start ns (l.map plS)) z with
  |some (.ok (.nx _) z1)=>some (R.ok (S.d .non) (H00 z z1))|some (.ok (.rt s) z1)=>some (.ok s (H00 z z1))|some (.er c z1)=>some (.er c (H00 z z1))
  |none=>none) else none) z Q E↔_
 rw[W_e,W_e];constructor
 ·rintro ⟨r,e,q⟩;rw[if_pos ⟨hl,hn⟩] at e;split at e
  ·rename_i ρ z1 e1;cases e;exact⟨_,e1,q⟩
  ·rename_i s z1 e1;cases e;exact⟨_,e1,q⟩
  ·rename_i c z1 e1;cases e;exact⟨_,e1,q⟩
  ·cases e
 ·rintro ⟨r,e,q⟩;rw[if_pos ⟨hl,hn⟩,e]
  match r,q with
  |.ok (.nx ρ) z1,q=>exact⟨_,rfl,q⟩|.ok (.rt s) z1,q=>exact⟨_,rfl,q⟩|.er c z1,q=>exact⟨_,rfl,q⟩
end
section
variable {F:FT}{tp:Bool}{ρ:Env}{z:Z}{E:Nat->Z->Prop}
theorem U00{f:D->M (Option D)}{o:D->Option D}:∀ {xs:List D}{Q:List D->Z->Prop},(∀ x∈xs,f x z=some (.ok (o x) z))->(W (turns f xs) z Q E↔Q (xs.filterMap o) z)
 |[],Q,_=>C70
 |x::r,Q,h=>by
  show W (M.bind (f x) _) z Q E↔_;rw[t10,z72 (h x Ë),t10,U00 λy hy=>h y (Í _ hy),C70];rw[Á3];cases o x <;> rfl
theorem Z20{f:D->M (Option D)}{I:Z->Prop}{P:D->D->Prop}:∀ {xs:List D}{z:Z}{Q:List D->Z->Prop},I z->(∀ x∈xs,∀ z,I z->W (f x) z (λo z1=>I z1/\∃ y,o=some y/\P x y) NE)->(∀ ys z1,I z1->Á7 P xs ys->Q ys z1)->W (turns f xs) z Q E
 |[],z,Q,hi,_,q=>C70.mpr (q [] z hi .nil)
 |x::r,z,Q,hi,h,q=>by
  show W (M.bind (f x) _) z Q E;rw[t10];refine(h x Ë z hi).imp λo z1 ⟨hi1,y,e,hp⟩=>?_;subst e;rw[t10];refine Z20 hi1 (λx' hx'=>h x' (Í _ hx')) λys z2 hi2 hps=>?_;exact C70.mpr (q _ _ hi2 (.cons hp hps))
theorem J51(I:List D->Env->Z->Prop):∀ (xs:List D) {ρ:Env}{z:Z},I xs ρ z->(∀ x r ρ z,I (x::r) ρ z->W (f x ρ) z (λo z1=>match o with
  |.nx ρ=>I r ρ z1
  |.rt s=>Q (.rt s) z1) E)->(∀ ρ z,I [] ρ z->Q (.nx ρ) z)->W (Q20 f xs ρ) z Q E
 |[],ρ,z,hi,_,q=>C70.mpr (q _ _ hi)
 |x::r,ρ,z,hi,h,q=>by
  show W (M.bind (f x ρ) _) z Q E;rw[t10];refine(h x r ρ z hi).mono (λo z1 ho=>?_) λ_ _ h=>h;cases o with
  |nx ρ1=>exact J51 I r ho h q|rt s=>exact C70.mpr ho
end
mutual
noncomputable def cE:D->Ex
 |.tup l=>.tup (cEs l)|.lst l=>.lst (cEs l)|.int i=>if i < 0 then .neg (.con (.int (-i))) else .con (.int i)|x=>.con x
noncomputable def cEs:List D->Ex
 |[]=>.nil|x::r=>.cons (cE x) (cEs r)
end
mutual
noncomputable def okC:D->Bool
 |.tup l=>decide (l.length<=most)&&w22 l|.lst l=>decide (l.length<=most)&&w22 l|_=>true
noncomputable def w22:List D->Bool
 |[]=>true|x::r=>okC x&&w22 r
end
def cX(d:D)(_:okC d=true):Ex:=cE d
section
variable {F:FT}{ρ:Env}{z:Z}{Q:List S->Z->Prop}{E:Nat->Z->Prop}{a b c as:Ex}{p:Pat}{ρ0:Env}{x:D}{Q1:Option D->Z->Prop}
theorem r31:W (o50 (ev F .nil) (ev F a) p ρ0 x) z Q1 E↔Get (e40 p x ρ0) λρ=>WE F a ρ z (λy z1=>Get (pl y) λd=>Q1 (some d) z1) E :=
 (wG λρ=>show _↔W (M.bind (ev F a ρ) λy=>M.bind (M.of (pl y)) λy=>M.ret (some y)) z Q1 E from wB c90 λy z1=>wG λd=>wR).symm
theorem i32{l:List S}{m:M (List S)}{V:Prop}(h:V↔W (M.bind m λy=>M.bind (M.of (pl y)) λy=>M.ret (some y)) z Q1 E):(match l with | [s]=>Get (blS s) λb=>if b then V else Q1 none z | _=>l=[]/\V)↔W (match l with
  |[]=>M.bind m λy=>M.bind (M.of (pl y)) λy=>M.ret (some y)|[.d (.bl true)]=>M.bind m λy=>M.bind (M.of (pl y)) λy=>M.ret (some y)|[.d (.bl false)]=>M.ret none
  |_=>M.no) z Q1 E:=by
 match l with
 |[]=>exact⟨λx=>h.mp x.2,λx=>⟨rfl,h.mpr x⟩⟩|[.d (.bl true)]=>exact h62.trans ((iff_of_eq (if_pos rfl)).trans h)|[.d (.bl false)]=>exact h62.trans ((iff_of_eq (if_neg Ò)).trans wR)|[.d .non]=>exact wN|[.d (.int _)]=>exact wN|[.d (.str _)]=>exact wN|[.d (.tup _)]=>exact wN|[.d (.lst _)]=>exact wN|[.d .dct]=>exact wN|[.fr _]=>exact wN|[.z]=>exact wN|[.ks _]=>exact wN
 |s::_::_ =>
  refine⟨λx=>(by cases x.1),λx=>?_⟩
  cases s with
  |d y =>
   cases y with
   |bl b=>cases b <;> exact(h72.mp x).elim
   |_=>exact(h72.mp x).elim
  |_=>exact(h72.mp x).elim
theorem r41:W (o50 (ev F (.cons c .nil)) (ev F a) p ρ0 x) z Q1 E↔Get (e40 p x ρ0) λρ=>WE F c ρ z (λy z1=>Get (one y) λs=>Get (blS s) λb=>if b then WE F a ρ z1 (λy z2=>Get (pl y) λd=>Q1 (some d) z2) E else Q1 none z1) E:=by
 refine Iff.symm (wG λρ=>?_);refine wB (c90 (F:=F) (e:=.cons c .nil) (ρ:=ρ) (Q:=λl z1=>match l with | [s]=>Get (blS s) λb=>if b then WE F a ρ z1 (λy z2=>Get (pl y) λd=>Q1 (some d) z2) E else Q1 none z1 | _=>l=[]/\WE F a ρ z1 (λy z2=>Get (pl y) λd=>Q1 (some d) z2) E)) λl z1=>?_
 exact i32 (wB c90 λy z1=>wG λd=>wR)
end
section
variable {α:Type}{m:M α}{z z1:Z}{Q Q':α->Z->Prop}{E:Nat->Z->Prop}
theorem Wo(h:m z=some (.ok a z1))(q:Q a z1):W m z Q E:=⟨_,h,q⟩
end
theorem p20{T:List Df}{k f ps ns:Nat}{b:Sm}{l:List S}{z:Z}{Q:S->Z->Prop}{E:Nat->Z->Prop}(h:T[f]?=some (.code ps ns b))(hl:l.length=ps)(hn:ps<=ns)(q:WS (S10 T (k + 2)) z.isNone b (start ns (l.map plS)) z (λo z1=>match o with
  |.nx _=>Q (.d .non) (H00 z z1)
  |.rt s=>Q s (H00 z z1)) λc z1=>E c (H00 z z1)):W (c20 T (k + 3) f l) z Q E:=(i22 h hl hn).mpr q
theorem ib{b:Bool}{A B:Prop}(ht:b=true->A)(hf:b=false->B):if b=true then A else B:=by
 cases b with
 |true=>exact ht rfl|false=>exact hf rfl
theorem it{b:Bool}{A B:Prop}(h:b=true)(a:A):if b=true then A else B:=by rw[if_pos h];exact a
theorem ie{b:Bool}{A B:Prop}(h:b=false)(a:B):if b=true then A else B:=by rw[h];exact a
theorem ip{c:Prop}[Decidable c]{A B:Prop}(h:c)(a:A):if c then A else B:=by rw[if_pos h];exact a
theorem r51(z:Z):H00 z z=z:=by cases z <;> rfl
theorem sd{s t:S}{z:Z}(h:s=t):s=t/\H00 z z=z:=⟨h,r51 z⟩
theorem sb(h:b=c):S.d (.bl b)=S.d (.bl c)/\H00 z z=z:=sd (by rw[h])
section
variable {F:FT}{tp:Bool}{z:Z}{E:Nat->Z->Prop}{p:Pat}
theorem U10(I:List D->Env->Z->Prop)(xs:List D)(hi:I xs ρ z)(h:∀ x r ρ z,I (x::r) ρ z->Get (e40 p x ρ) λρ=>WS F tp b ρ z (λo z1=>match o with
  |.nx ρ=>I r ρ z1
  |.rt s=>Q (.rt s) z1) E) (q:∀ ρ z,I [] ρ z->Q (.nx ρ) z):W (Q20 (λx ρ=>M.bind (M.of (e40 p x ρ)) λρ=>ex F tp b ρ) xs ρ) z Q E :=
 J51 I xs hi (λx r ρ z hi=>(wG λρ=>Z10).mp (h x r ρ z hi)) q
variable {ρ0:Env}{cond el:Ex}{xs:List D}{Q:List D->Z->Prop}
theorem Z30(o:D->D)(h:∀ x∈xs,Get (e40 p x ρ0) λρ=>WE F el ρ z (λy z1=>Get (pl y) λd=>d=o x/\z1=z) NE)(q:Q (xs.map o) z):W (turns (o50 (ev F .nil) (ev F el) p ρ0) xs) z Q E:=by
 refine(U00 (o:=λx=>some (o x)) λx hx=>?_).mpr ?_
 ·refine W.ok (r31.mpr ?_);obtain⟨ρ,e,h⟩:=m80 (h x hx);refine a20 e (c90.mpr ((c90.mp h).imp λy z1 h=>?_));obtain⟨d,e,rfl,rfl⟩:=m80 h;exact a20 e ⟨rfl,rfl⟩
 ·rw[show xs.filterMap (λx=>some (o x))=xs.map o from congrFun (List.filterMap_eq_map (f:=o)) xs];exact q
theorem w32{c:D->Bool}{o:D->D}:∀ xs:List D,xs.filterMap (λx=>if c x then some (o x) else none)=(xs.filter c).map o
 |[]=>rfl
 |x::r=>by
  rw[Á3,List.filter_cons];cases hc:c x with
  |false=>exact w32 r|true=>exact congrArg (o x::·) (w32 r)
theorem r61(c:D->Bool)(o:D->D)(h:∀ x∈xs,Get (e40 p x ρ0) λρ=>WE F cond ρ z (λy z1=>Get (one y) λs=>s=.d (.bl (c x))/\z1=z/\(c x=true->WE F el ρ z (λy z1=>Get (pl y) λd=>d=o x/\z1=z) NE)) NE)(q:Q ((xs.filter c).map o) z):W (turns (o50 (ev F (.cons cond .nil)) (ev F el) p ρ0) xs) z Q E:=by
 refine(U00 (o:=λx=>if c x then some (o x) else none) λx hx=>?_).mpr ?_
 ·refine W.ok (r41.mpr ?_);obtain⟨ρ,e,h⟩:=m80 (h x hx);refine a20 e (c90.mpr ((c90.mp h).imp λy z1 h=>?_));obtain⟨s,e,rfl,rfl,h⟩:=m80 h;refine a20 e ?_;show if c x=true then _ else _;cases hc:c x with
  |false=>exact⟨rfl,rfl⟩
  |true =>
   refine c90.mpr ((c90.mp (h hc)).imp λy z1 h=>?_);obtain⟨d,e,rfl,rfl⟩:=m80 h;exact a20 e ⟨rfl,rfl⟩
 ·rw[w32];exact q
theorem i42{I:Z->Prop}(o:D->D):∀ {xs:List D}{z:Z}{Q:List D->Z->Prop},I z->(∀ x∈xs,∀ z,I z->Get (e40 p x ρ0) λρ=>WE F cond ρ z (λy z1=>Get (one y) λs=>I z1/\∃ b,s=.d (.bl b)/\(b=true->WE F el ρ z1 (λy z2=>Get (pl y) λd=>d=o x/\z2=z1) NE)) NE) ->
  (∀ ys z1,I z1->ys.Sublist (xs.map o)->Q ys z1)->W (turns (o50 (ev F (.cons cond .nil)) (ev F el) p ρ0) xs) z Q E
 |[],z,Q,hi,_,q=>C70.mpr (q [] z hi .slnil)
 |x::r,z,Q,hi,h,q=>by
  show W (M.bind (o50 _ _ p ρ0 x) _) z Q E;refine t10.mpr (r41.mpr ?_);obtain⟨ρ,e,h0⟩:=m80 (h x Ë z hi);refine a20 e (c90.mpr ((c90.mp h0).imp λy z1 h1=>?_));obtain⟨s,e,hi1,b,rfl,h2⟩:=m80 h1;refine a20 e ?_;show if b=true then _ else _;have hr:=λ{Q:List D->Z->Prop} (q:∀ ys z1,I z1->ys.Sublist (r.map o)->Q ys z1)=>i42 o (z:=z1) hi1 (λy hy=>h y (Í _ hy)) q;cases b with
  |false=>exact t10.mpr (hr λys z2 hi2 hs=>C70.mpr (q ys z2 hi2 (hs.cons _)))
  |true =>
   refine c90.mpr ((c90.mp (h2 rfl)).imp λy z2 h3=>?_);obtain⟨d,e,rfl,rfl⟩:=m80 h3;exact a20 e (t10.mpr (hr λys z2 hi2 hs=>C70.mpr (q _ z2 hi2 (hs.cons_cons _))))
theorem J22{I:Z->Prop}{P:D->D->Prop}(hi:I z)(h:∀ x∈xs,∀ z,I z->Get (e40 p x ρ0) λρ=>WE F el ρ z (λy z1=>Get (pl y) λd=>I z1/\P x d) NE)(q:∀ ys z1,I z1->Á7 P xs ys->Q ys z1):W (turns (o50 (ev F .nil) (ev F el) p ρ0) xs) z Q E:=by
 refine Z20 hi (λx hx z hz=>r31.mpr ?_) q;obtain⟨ρ,e,h⟩:=m80 (h x hx z hz);refine a20 e (c90.mpr ((c90.mp h).imp λy z1 h=>?_));obtain⟨d,e,h⟩:=m80 h;exact a20 e ⟨h.1,d,rfl,h.2⟩
end
theorem r71{s:S}{ρ:Env}(h:M80 s=true):k10 s ρ=ρ:=by
 unfold k10;rw[N00,h];rfl
theorem D21{F:FT}{tp:Bool}{p:Pat}{e:Ex}{r:Sm}{ρ:Env}{z:Z}{Q:O->Z->Prop}{E:Nat->Z->Prop}(s:S)(ρ':Env)(he:WE F e ρ z (λl z1=>Get (one l) λt=>t=s/\z1=z) NE)(hb:G90 p s (k10 s ρ)=some ρ')(q:WS F tp r ρ' z Q E):WS F tp (.seq (.set p e) r) ρ z Q E:=by
 show WE F e ρ z (λl z1=>Get (one l) λs=>Get (G90 p s (k10 s ρ)) λρ'=>WX F tp r ρ' z1 Q E) E;refine c90.mpr ((c90.mp he).imp λl z1 h=>?_);obtain⟨t,e,rfl,rfl⟩:=m80 h;exact a20 e (a20 hb q)
end Q
namespace K3
open PySem L2 Q
def top(i:Nat):Stmt:=é.main.body.getD i (.Pass ⟨0,0,0,0⟩)
def nums:List (Str × Int):=[(("MOST_PLACES":Str),(6:Int)),(("MOST_TIES":Str),(8:Int))]
abbrev v0:Ex:=.var 0
abbrev v1:Ex:=.var 1
abbrev v2:Ex:=.var 2
abbrev v3:Ex:=.var 3
abbrev v4:Ex:=.var 4
abbrev v5:Ex:=.var 5
abbrev v6:Ex:=.var 6
abbrev v7:Ex:=.var 7
abbrev v8:Ex:=.var 8
abbrev v9:Ex:=.var 9
abbrev n0:Ex:=.con (.int 0)
abbrev n1:Ex:=.con (.int 1)
abbrev n2:Ex:=.con (.int 2)
abbrev c1(a:Ex):Ex:=.cons a .nil
abbrev c2(a b:Ex):Ex:=.cons a (.cons b .nil)
abbrev c3(a b c:Ex):Ex:=.cons a (.cons b (.cons c .nil))
abbrev c4(a b c d:Ex):Ex:=.cons a (.cons b (.cons c (.cons d .nil)))
abbrev c5(a b c d e:Ex):Ex:=.cons a (.cons b (.cons c (.cons d (.cons e .nil))))
abbrev s1(a:Sm):Sm:=.seq a .nil
abbrev p2(a b:Pat):Pat:=.tup (.cons a (.cons b .nil))
abbrev u70:Nat:=0
abbrev o20:Nat:=1
abbrev Z40:Nat:=2
abbrev E00:Nat:=3
abbrev Z50:Nat:=4
abbrev r81:Nat:=5
abbrev f20:Nat:=6
abbrev Z60:Nat:=7
abbrev h80:Nat:=8
abbrev q40:Nat:=9
abbrev f40:Nat:=10
abbrev u80:Nat:=11
abbrev B10:Nat:=12
abbrev i90:Nat:=13
abbrev r91:Nat:=14
abbrev u90:Nat:=15
abbrev w30:Nat:=16
abbrev p30:Nat:=17
abbrev v00:Nat:=18
abbrev Z70:Nat:=19
abbrev h90:Nat:=20
abbrev m90:Nat:=21
abbrev s01:Nat:=22
abbrev w40:Nat:=23
abbrev p40:Nat:=24
abbrev w50:Nat:=25
abbrev c10:Nat:=26
abbrev E10:Nat:=27
abbrev t20:Nat:=28
abbrev t30:Nat:=29
abbrev l20:Nat:=30
abbrev w60:Nat:=31
abbrev i52:Nat:=32
def E20:Sm:=(s1 (.ret (.and (.isi .int v0) (.not (.isi .bool v0)))))
def v40:Sm:=(s1 (.ret (.and (.call u70 (c1 v0)) (.ch .le .lt n0 v0 v1))))
def I40:Sm:=(.seq (.iff (.or (.not (.isi .tuple v0)) (.cmp .ne (.bf .len (c1 v0)) n2)) (s1 (.ret (.con (.bl false)))) .nil) (.seq (.set (p2 (.v 2) (.v 3)) v0) (s1 (.ret (.and (.call o20 (c2 v2 v1)) (.and (.call o20 (c2 v3 v1)) (.cmp .lt v2 v3)))))))
def v50:Sm:=(.seq (.iff (.or (.not (.isi .tuple v0)) (.cmp .gt (.bf .len (c1 v0)) (.gint "MOST_TIES" 8))) (s1 (.ret (.con (.bl false)))) .nil) (.seq (.iff (.not (.bf .all (c1 (.comp 1 [1] (.v 0) .seq (c1 v0) .nil (.call Z40 (c2 v0 v1)))))) (s1 (.ret (.con (.bl false)))) .nil) (s1 (.ret (.bf .all (c1 (.comp 2 [] (p2 (.v 0) (.v 1)) .zip (c2 v0 (.sl v0 (c1 n1) .nil)) .nil (.cmp .le v0 v1))))))))
def I50:Sm:=(.seq (.iff (.or (.not (.isi .tuple v0)) (.cmp .ne (.bf .len (c1 v0)) n2)) (s1 (.ret (.con (.bl false)))) .nil) (.seq (.set (p2 (.v 1) (.v 2)) v0) (s1 (.ret (.and (.call u70 (c1 v1)) (.and (.ch .le .le n1 v1 (.gint "MOST_PLACES" 6)) (.call E00 (c2 v2 v1))))))))
def U20:Sm:=(s1 (.ret (.bf .all (c1 (.comp 2 [] (p2 (.v 0) (.v 1)) .zip (c2 v0 (.sl v0 (c1 n1) .nil)) .nil (.cmp .lt v0 v1))))))
def f30:Sm:=(.seq (.iff (.not (.isi .tuple v0)) (s1 (.ret (.con (.bl false)))) .nil) (s1 (.ret (.and (.bf .all (c1 (.comp 1 [1] (.v 0) .seq (c1 v0) .nil (.call o20 (c2 v0 v1))))) (.call r81 (c1 v0))))))
def I60:Sm:=(s1 (.ret (.call f20 (c2 v1 (.bf .len (c1 (.idx v0 n1)))))))
def q50:Sm:=(s1 (.iff (.not (.call Z50 (c1 v0))) (s1 (.rais 0)) .nil))
def q60:Sm:=(s1 (.iff (.not (.call Z60 (c2 v0 v1))) (s1 (.rais 1)) .nil))
def j60:Sm:=(s1 (.iff (.or (.not (.call f20 (c2 v1 (.idx v0 n0)))) (.cmp .eq (.bf .len (c1 v1)) n0)) (s1 (.rais 2)) .nil))
def v60:Sm:=(.seq (.set (p2 (.v 2) (.v 3)) v0) (.seq (.set (.v 4) (.lrng false (c1 v2))) (.seq (.fr (.v 5) .seq (c1 v1) (.seq (.set (p2 (.v 6) (.v 7)) (.idx v3 v5)) (.seq (.set (.v 8) (.idx v4 v6)) (.seq (.set (.v 9) (.idx v4 v7)) (s1 (.set (.v 4) (.comp 1 [8,9] (.v 0) .seq (c1 v4) .nil (.ite (.cmp .eq v0 v2) v1 v0)))))))) (s1 (.ret v4)))))
def q70:Sm:=(.seq (.exp (.call h80 (c1 v0))) (.seq (.exp (.call q40 (c2 v0 v1))) (.grp 2 3 4 (.call u80 (c2 v0 v1)))))
def n00:Sm:=(.seq (.set (.v 3) (.call u80 (c2 v0 v1))) (s1 (.ret (.bf .all (c1 (.comp 1 [2,3] (.v 0) .seq (c1 v2) .nil (.cmp .eq (.idx v2 v0) (.idx v2 (.idx v1 n0)))))))))
def U30:Sm:=(.seq (.exp (.call h80 (c1 v0))) (.seq (.exp (.call q40 (c2 v0 v1))) (.seq (.exp (.call f40 (c2 v0 v2))) (s1 (.ret (.call i90 (c3 v0 v1 v2)))))))
def o30:Sm:=(.seq (.set (.v 1) (cX (.lst [(.tup [])]) (-0))) (.seq (.fr (.v 2) .rng1 (c1 (.bf .len (c1 (.idx v0 n1)))) (s1 (.set (.v 1) (.bin .add v1 (.comp 1 [2] (.v 0) .seq (c1 v1) .nil (.bin .add v0 (.tup (c1 v1)))))))) (s1 (.ret (.bf .sorted (c1 v1))))))
def n10:Sm:=(s1 (.ret (.bf .tuple (c1 (.comp 1 [1] (.v 0) .rng1 (c1 (.bf .len (c1 (.idx v0 n1)))) (c1 (.cmp .nmem v0 v1)) v0)))))
def j70:Sm:=(s1 (.ret (.comp 1 [0] (.v 0) .rng1 (c1 (.bf .len (c1 v0))) .nil (.bin .add (.sl v1 .nil (c1 v0)) (.sl v1 (c1 (.bin .add v0 n1)) .nil)))))
def v70:Sm:=(.seq (.set (.v 1) (.dkeys v0)) (s1 (.ret (.comp 1 [1] (.v 0) .seq (c1 v0) (c1 (.not (.bf .any (c1 (.comp 1 [1] (.v 0) .seq (c1 (.call p30 (c1 v0))) .nil (.memk true v0 1)))))) v0))))
def I70:Sm:=(s1 (.ret (.not (.call i90 (c3 v0 (.call w30 (c2 v0 v1)) v2)))))
def q80:Sm:=(.seq (.exp (.call h80 (c1 v0))) (.seq (.exp (.call f40 (c2 v0 v1))) (s1 (.ret (.comp 1 [0,1] (.v 0) .seq (c1 (.call u90 (c1 v0))) (c1 (.call i90 (c3 v1 v0 v2))) v0)))))
def n20:Sm:=(s1 (.ret (.call v00 (c1 (.call h90 (c2 v0 v1))))))
def s11:Sm:=(.seq (.exp (.call h80 (c1 v0))) (.seq (.exp (.call f40 (c2 v0 v1))) (s1 (.ret (.comp 1 [0,1] (.v 0) .seq (c1 (.call u90 (c1 v0))) (c1 (.call Z70 (c3 v1 v0 v2))) v0)))))
def n30:Sm:=(s1 (.ret (.call v00 (c1 (.call s01 (c2 v0 v1))))))
def f50:Sm:=(.seq (.iff (.cmp .lt v1 (.bf .len (c1 v0))) (s1 (.ret (.idx v0 v1))) .nil) (s1 (.ret n0)))
def j00:Sm:=(.seq (.set (.v 2) (.call p40 (c2 v0 v1))) (.seq (.iff (.cmp .ge v2 (.bin .pow (.con (.int 10)) (.con (.int 18)))) (s1 (.ret (.lst (c2 (.bin .sub v2 (.bin .pow (.con (.int 10)) (.con (.int 18)))) (.con (.bl true)))))) .nil) (s1 (.ret (.lst (c2 (.bin .mod v2 (.con (.int 2147483647))) (.con (.bl false))))))))
def q90:Sm:=(.seq (.iff (.zget 0 1) (.seq (.set (.v 2) (.bin .mod (.zget 0 0) v1)) (.seq (.zset 0 (.bin .fdiv (.zget 0 0) v1)) (s1 (.ret v2)))) .nil) (.seq (.zset 0 (.bin .mod (.bin .add (.bin .mul (.zget 0 0) (.con (.int 48271))) (.con (.int 29))) (.con (.int 2147483647)))) (.seq (.set (.v 3) (.bin .mod (.bin .add (.bin .add (.bin .mul (.zget 0 0) (.zget 0 0)) (.bin .mul (.con (.int 39373)) (.zget 0 0))) (.con (.int 7))) (.con (.int 2147483629)))) (.seq (.set (.v 3) (.bin .mod (.bin .add (.bin .mul v3 v3) (.bin .mul (.con (.int 16807)) v3)) (.con (.int 2147483587)))) (s1 (.ret (.bin .mod (.bin .fdiv v3 (.con (.int 8))) v1)))))))
def v80:Sm:=(.seq (.set (.v 2) (.idx (cX (.lst [(.int 6),(.int 5),(.int 4),(.int 3),(.int 4),(.int 5),(.int 2),(.int 1)]) (-0)) (.call c10 (c2 v0 (.con (.int 8)))))) (.seq (.set (.v 3) (.lst .nil)) (.seq (.iff (.and (.cmp .gt v2 n1) (.cmp .gt (.call c10 (c2 v0 (.con (.int 5)))) n0)) (s1 (.set (.v 3) (.comp 1 [0] (.v 0) .rng2 (c2 n1 v2) .nil (.tup (c2 (.call c10 (c2 v1 v0)) v0))))) .nil) (.seq (.fr (.v 4) .rng1 (c1 (.bin .mul (.call c10 (c2 v0 (.bin .add v1 n1))) (.bf .int (c1 (.cmp .gt v2 n1))))) (.seq (.set (.v 5) (.call c10 (c2 v0 v2))) (.seq (.set (.v 6) (.bin .mod (.bin .add (.bin .add v5 n1) (.call c10 (c2 v0 (.bin .sub v2 n1)))) v2)) (s1 (.app 3 (.tup (c2 (.bf .min (c2 v5 v6)) (.bf .max (c2 v5 v6))))))))) (s1 (.ret (.tup (c2 v2 (.bf .tuple (c1 (.bf .sorted (c1 (.sl v3 .nil (c1 v1))))))))))))))
def l30:Sm:=(.seq (.set (.v 2) (.call c10 (c2 v0 (.con (.int 4))))) (.seq (.iff (.or (.cmp .lt v2 n2) (.cmp .eq (.idx v1 n0) n1)) (s1 (.ret (.lrng true (c1 (.idx v1 n0))))) .nil) (.seq (.iff (.cmp .eq v2 n2) (.seq (.set (.v 3) (.call c10 (c2 v0 (.idx v1 n0)))) (s1 (.ret (.bf .tuple (c1 (.bf .sorted (c1 (.lst (c2 v3 (.bin .mod (.bin .add (.bin .add v3 n1) (.call c10 (c2 v0 (.bin .sub (.idx v1 n0) n1)))) (.idx v1 n0))))))))))) .nil) (s1 (.ret (.orT (.bf .tuple (c1 (.comp 1 [0] (.v 0) .rng1 (c1 (.idx v1 n0)) (c1 (.cmp .eq (.call c10 (c2 v1 n2)) n1)) v0))) (.tup (c1 (.bin .sub (.idx v1 n0) n1)))))))))
def l40:Sm:=(s1 (.ret (.cmp .eq (.comp 1 [1] (.v 0) .seq (c1 v0) (c1 (.cmp .nmem v0 v1)) v0) (.lst .nil))))
def r00:Sm:=(s1 (.ret (.cmp .ne (.comp 1 [1] (.v 0) .seq (c1 v0) (c1 (.cmp .mem v0 v1)) v0) (.lst .nil))))
def j10:Sm:=(.seq (.set (p2 (.v 2) (.v 3)) (.tup (c2 (.call h90 (c2 v0 v1)) (.call s01 (c2 v0 v1))))) (.seq (.set (p2 (.v 4) (.v 5)) (.tup (c2 (.call m90 (c2 v0 v1)) (.call w40 (c2 v0 v1))))) (.seq (.set (.v 6) (.bf .dict (c1 (.comp 1 [] (.v 0) .seq (c1 v3) .nil (.tup (c2 v0 (.con (.bl true)))))))) (.seq (.set (.v 7) (.bf .dict (c1 (.comp 1 [] (.v 0) .seq (c1 v2) .nil (.tup (c2 v0 (.con (.bl true)))))))) (.seq (.iff (.cmp .ne (.bin .add (.bf .len (c1 v2)) (.bf .len (c1 v3))) (.bin .shl n1 (.bf .len (c1 (.idx v0 n1))))) (s1 (.ret (.con (.bl false)))) .nil) (.seq (.fr (.v 8) .seq (c1 v2) (.seq (.set (.v 9) (.bf .tuple (c1 (.comp 1 [8] (.v 0) .rng1 (c1 (.bf .len (c1 (.idx v0 n1)))) (c1 (.cmp .nmem v0 v1)) v0)))) (.seq (.iff (.or (.memk true v9 6) (.cmp .isnt (.call r91 (c3 v0 v8 v1)) (.con (.bl true)))) (s1 (.ret (.con (.bl false)))) .nil) (s1 (.iff (.or (.cmp .eq (.comp 1 [8] (.v 0) .seq (c1 v4) (c1 (.call t30 (c2 v0 v1))) v0) (.lst .nil)) (.not (.bf .all (c1 (.comp 1 [8] (.v 0) .seq (c1 v5) .nil (.call l20 (c2 v1 v0))))))) (s1 (.ret (.con (.bl false)))) .nil))))) (.seq (.fr (.v 8) .seq (c1 v5) (.seq (.iff (.not (.bf .all (c1 (.comp 1 [8] (.v 0) .seq (c1 v4) .nil (.call l20 (c2 v1 v0)))))) (s1 (.ret (.con (.bl false)))) .nil) (s1 (.fr (.v 10) .rng1 (c1 (.bf .len (c1 v8))) (s1 (.iff (.bf .all (c1 (.comp 1 [8,10] (.v 0) .seq (c1 v4) .nil (.call l20 (c2 (.bin .add (.sl v1 .nil (c1 v2)) (.sl v1 (c1 (.bin .add v2 n1)) .nil)) v0))))) (s1 (.ret (.con (.bl false)))) .nil)))))) (s1 (.ret (.cmp .eq (.comp 1 [7] (.v 0) .seq (c1 v4) (c1 (.memk false v0 1)) v0) (.lst .nil)))))))))))
def D31:Sm:=(.seq (.fr (.v 1) .rng1 (c1 (.bf .max (c2 n1 (.bf .min (c2 (.bf .len (c1 v0)) (.con (.int 3))))))) (.seq (.newz 2 w50 (c2 v0 v1)) (.seq (.set (.v 3) (.call E10 (c2 v2 (.con (.int 7))))) (.seq (.set (p2 (.v 4) (.v 5)) (.tup (c2 (.call t20 (c2 v2 v3)) (.lrng true (c1 (.idx v3 n0)))))) (.seq (.iff (.not (.call w60 (c2 v3 v4))) (s1 (.ret (.con (.bl false)))) .nil) (.seq (.set (.v 6) (.call m90 (c2 v3 v5))) (.seq (.iff (.cmp .ne (.comp 1 [3] (.v 0) .seq (c1 v6) (c1 (.or (.cmp .ne (.bf .len (c1 v0)) (.bin .sub (.idx v1 n0) n1)) (.cmp .ne (.bf .len (c1 (.call B10 (c2 v1 v0)))) n1))) v0) (.lst .nil)) (s1 (.ret (.con (.bl false)))) .nil) (.seq (.set (.v 7) (.call h90 (c2 v3 v4))) (s1 (.iff (.cmp .ne (.comp 1 [7] (.v 0) .seq (c1 (.call h90 (c2 v3 v5))) (c1 (.cmp .nmem v0 v1)) v0) (.lst .nil)) (s1 (.ret (.con (.bl false)))) .nil)))))))))) (s1 (.ret (.con (.bl true)))))
def rows:List Row:=[(⟨"is_whole",["thing"],top 8,["thing"],E20,false⟩:Row),
 (⟨"is_below",["thing","many"],top 9,["thing","many"],v40,false⟩:Row),
 (⟨"is_tie",["thing","many"],top 10,["thing","many","a","b"],I40,false⟩:Row),
 (⟨"are_ties",["thing","many"],top 11,["thing","many"],v50,false⟩:Row),
 (⟨"is_web",["thing"],top 12,["thing","many","ties"],I50,false⟩:Row),
 (⟨"rises",["things"],top 13,["things"],U20,false⟩:Row),
 (⟨"is_rising_below",["thing","many"],top 14,["thing","many"],f30,false⟩:Row),
 (⟨"is_lot",["web","thing"],top 15,["web","thing"],I60,false⟩:Row),
 (⟨"check_web",["thing"],top 16,["thing"],q50,false⟩:Row),
 (⟨"check_lot",["web","thing"],top 17,["web","thing"],q60,false⟩:Row),
 (⟨"check_places",["web","thing"],top 18,["web","thing"],j60,false⟩:Row),
 (⟨"marks_by",["web","lot"],top 19,["web","lot","many","ties","marks","number","a","b","kept","gone"],v60,false⟩:Row),
 (⟨"pieces_by",["web","lot"],top 20,["web","lot","groups","place","mark"],q70,false⟩:Row),
 (⟨"are_joined",["web","lot","places"],top 21,["web","lot","places","marks"],n00,false⟩:Row),
 (⟨"hangs",["web","lot","places"],top 22,["web","lot","places"],U30,false⟩:Row),
 (⟨"all_lots",["web"],top 24,["web","lots","number"],o30,false⟩:Row),
 (⟨"other_ties",["web","lot"],top 25,["web","lot"],n10,false⟩:Row),
 (⟨"one_left_out",["lot"],top 26,["lot"],j70,false⟩:Row),
 (⟨"least_of",["lots"],top 27,["lots","known"],v70,false⟩:Row),
 (⟨"is_cut",["web","lot","places"],top 28,["web","lot","places"],I70,false⟩:Row),
 (⟨"good_lots",["web","places"],top 29,["web","places"],q80,false⟩:Row),
 (⟨"least_good",["web","places"],top 30,["web","places"],n20,false⟩:Row),
 (⟨"cuts",["web","places"],top 31,["web","places"],s11,false⟩:Row),
 (⟨"least_cuts",["web","places"],top 32,["web","places"],n30,false⟩:Row),
 (⟨"_law_cell_at",["_law_script","_law_k"],top 34,["_law_script","_law_k"],f50,false⟩:Row),
 (⟨"_law_state",["_law_script","_law_k"],top 35,["_law_script","_law_k","_law_cell"],j00,false⟩:Row),
 (⟨"_law_take",["_law_state_here","_law_many"],top 36,["_law_state_here","_law_many","_law_found","_law_stirred"],q90,false⟩:Row),
 (⟨"_law_web",["_law_state_here","_law_most"],top 37,["_law_state_here","_law_most","_law_many","_law_ties","_law_turn","_law_one","_law_other"],v80,false⟩:Row),
 (⟨"_law_places",["_law_state_here","_law_web_here"],top 38,["_law_state_here","_law_web_here","_law_way","_law_one"],l30,false⟩:Row),
 (⟨"_law_within",["_law_one","_law_other"],top 39,["_law_one","_law_other"],l40,false⟩:Row),
 (⟨"_law_meet",["_law_one","_law_other"],top 40,["_law_one","_law_other"],r00,false⟩:Row),
 (⟨"_law_right",["_law_web_here","_law_places_here"],top 41,["_law_web_here","_law_places_here","_law_good","_law_gone","_law_least","_law_little","_law_marks","_law_known","_law_lot","_law_rest","_law_at"],j10,false⟩:Row),
 (⟨"law",["_law_script"],top 42,["_law_script","_law_k","_law_state_here","_law_web_here","_law_places_here","_law_every","_law_trees","_law_some"],D31,false⟩:Row)]
def T:List Df:=[(Df.code 1 1 E20:Df),(Df.code 2 2 v40:Df),(Df.code 2 4 I40:Df),(Df.code 2 2 v50:Df),(Df.code 1 3 I50:Df),(Df.code 1 1 U20:Df),(Df.code 2 2 f30:Df),(Df.code 2 2 I60:Df),(Df.code 1 1 q50:Df),(Df.code 2 2 q60:Df),(Df.code 2 2 j60:Df),(Df.code 2 10 v60:Df),(Df.code 2 5 q70:Df),(Df.code 3 4 n00:Df),(Df.code 3 3 U30:Df),(Df.code 1 3 o30:Df),(Df.code 2 2 n10:Df),(Df.code 1 1 j70:Df),(Df.code 1 2 v70:Df),(Df.code 3 3 I70:Df),(Df.code 2 2 q80:Df),(Df.code 2 2 n20:Df),(Df.code 2 2 s11:Df),(Df.code 2 2 n30:Df),(Df.code 2 2 f50:Df),(Df.code 2 3 j00:Df),(Df.code 2 4 q90:Df),(Df.code 2 7 v80:Df),(Df.code 2 4 l30:Df),(Df.code 2 2 l40:Df),(Df.code 2 2 r00:Df),(Df.code 2 11 j10:Df),(Df.code 1 8 D31:Df)]
theorem J32:tabOf rows=T:=rfl
def cn:List Str:=["NoWeb","NoLot","NoPlaces","NoWeb","NoWeb","NoWeb","NoWeb","NoWeb","NoWeb","NoWeb","NoWeb","NoWeb"]
end K3
namespace K3
open Q
open L2 (D)
def i62:D->Bool
 |.int _=>true|_=>false
theorem B20(k:Nat)(x:D)(z:Z):c20 T (k + 3) u70 [.d x] z=some (.ok (.d (.bl (i62 x))) z):=by
 cases z <;> cases x <;> rfl
def c80(x:D)(m:Int):Bool:=match x with
 |.int i=>decide (0<=i)&&decide (i < m)|_=>false
theorem r10(k:Nat)(x:D)(m:Int)(z:Z):c20 T (k + 4) o20 [.d x,.d (.int m)] z=some (.ok (.d (.bl (c80 x m))) z):=by
 refine W.ok (p20 (ps:=2) (ns:=2) (b:=v40) rfl rfl (-0) (Wo (B20 (k:=k) x z) ?_))
 cases x with
 |int i=>exact ib (b:=decide (0<=i)) (λh=>sb (show decide (i < m)=(decide (0<=i)&&decide (i < m)) by rw[h];rfl)) λh=>sb (show false=(decide (0<=i)&&decide (i < m)) by rw[h];rfl)|_=>exact sb rfl
def w11(x:D)(m:Int):Bool:=match x with
 |.tup [a,b]=>c80 a m&&(c80 b m&&(match a,b with
  |.int i,.int j=>decide (i < j)
  |_,_=>false))
 |_=>false
theorem k30(h:c80 x m=true):∃ i,x=.int i/\0<=i/\i < m:=by
 cases x with
 |int i =>
  unfold c80 at h;rw[Á,decide_eq_true_eq,decide_eq_true_eq] at h;exact⟨i,rfl,h⟩
 |_=>cases h
theorem s21(k:Nat)(x:D)(m:Int)(z:Z):c20 T (k + 5) Z40 [.d x,.d (.int m)] z=some (.ok (.d (.bl (w11 x m))) z):=by
 refine W.ok (p20 (ps:=2) (ns:=4) (b:=I40) rfl rfl (-0) ?_)
 cases x with
 |tup l =>
  match l with
  |[a,b] =>
   refine Wo (r10 k a m z) (ib (b:=c80 a m) (λh1=>Wo (r10 k b m z) (ib (b:=c80 b m) (λh2=>?_) λh=>?_)) λh=>?_)
   ·obtain⟨i,rfl,_⟩:=k30 h1;obtain⟨j,rfl,_⟩:=k30 h2;exact sb (show decide (i < j)=(c80 (.int i) m&&(c80 (.int j) m&&decide (i < j))) by rw[h1,h2];rfl)
   ·exact sb (show false=(c80 a m&&(c80 b m&&_)) by rw[h1,h];rfl)
   ·exact sb (show false=(c80 a m&&_) by rw[h];rfl)
  |[]=>exact sb rfl|[_]=>exact sb rfl|_::_::_::_=>exact sb rfl
 |_=>exact sb rfl
theorem w70(l:List D)(p:D->Bool):bfD .all [.lst (l.map λx=>D.bl (p x))]=some (.d (.bl (l.all p))):=by
 have h:(l.map λx=>D.bl (p x)).mapM asB=some (l.map p):=by
  induction l with
  |nil=>rfl
  |cons x r ih =>
   rw[Ã5,Ó5,ih];rfl
 show((l.map λx=>D.bl (p x)).mapM asB).map _=_;rw[h];simp[all_map]
theorem y20(l:List D)(n:Nat):cutD l (some (n:Int)) none=l.drop n:=by
 have h1:HT.sIx l.length 0 (some (n:Int))=min n l.length:=HT.h71 l.length 0 n;unfold cutD;rw[h1];show((l.drop (min n l.length)).take (l.length - min n l.length))=_;rcases Nat.le_total n l.length with h | h
 ·rw[Ò9 h,Ï8 (by rw[Ë2];omega)]
 ·rw[Ù4 h,drop_length,List.take_nil,List.drop_of_length_le h]
theorem I80:∀ a b:List D,(x70 a b).length<=a.length
 |[],_=>É _|_::_,[]=>Å2 _|_::r,_::q=>É7 (I80 r q)
theorem U40:∀ {a b:List D}{d:D},d∈x70 a b->∃ x∈a,∃ y∈b,d=.tup [x,y]
 |x::r,y::q,d,h=>by
  rcases å.mp h with h | h
  ·exact⟨x,Ë,y,Ë,h⟩
  ·obtain⟨u,hu,v,hv,e⟩:=U40 h;exact⟨u,Í _ hu,v,Í _ hv,e⟩
def leD:D->Bool
 |.tup [.tup a,.tup b]=>(match j40 a,j40 b with
  |some ns,some ms=>HT.leB ns ms
  |_,_=>false)
 |_=>false
def Z80(l:List D):Bool:=(x70 l (l.drop 1)).all leD
def U50(x:D)(m:Int):Bool:=match x with
 |.tup l=>decide (l.length<=8)&&(l.all (λt=>w11 t m)&&Z80 l)|_=>false
theorem O80(h:w11 x m=true):∃ i j,x=.tup [.int i,.int j]/\0<=i/\i < j/\j < m:=by
 cases x with
 |tup l =>
  match l,h with
  |[a,b],h =>
   unfold w11 at h;rw[Á,Á] at h;obtain⟨h1,h2,h3⟩:=h;obtain⟨i,rfl,i1,i2⟩:=k30 h1;obtain⟨j,rfl,j1,j2⟩:=k30 h2;exact⟨i,j,rfl,i1,of_decide_eq_true h3,j2⟩
 |_=>cases h
theorem g80(h:n<=1000):n<=most:=Ô h (-0)
theorem U60(k:Nat)(x:D)(m:Int)(z:Z):c20 T (k + 6) E00 [.d x,.d (.int m)] z=some (.ok (.d (.bl (U50 x m))) z):=by
 refine W.ok (p20 (ps:=2) (ns:=2) (b:=v50) rfl rfl (-0) ?_)
 cases x with
 |tup l =>
  refine ib (b:=decide ((8:Int) < (l.length:Int))) (λh=>?_) λh=>?_
  ·refine sb (show false=(decide (l.length<=8)&&_) from ?_);rw[decide_eq_true_eq] at h;rw[decide_eq_false ∅];rfl
  ·rw[decide_eq_false_iff_not] at h;have h8:l.length<=8:=by omega
   refine ip (g80 ∅) (Z30 (λx=>.bl (w11 x m)) (λx _=>Wo (s21 k x m z) ⟨rfl,rfl⟩) ?_)
   refine(a20 (w70 l λx=>w11 x m) ?_ :);refine ib (b:=!l.all λx=>w11 x m) (λh=>?_) λh2=>?_
   ·exact sb (show false=(decide (l.length<=8)&&(l.all (λt=>w11 t m)&&Z80 l)) by rw[ú] at h;rw[h,É5,Bool.and_false])
   ·rw[Bool.not_eq_false'] at h2;have ha:=ø.mp h2;have e1:cutD l (some 1) none=l.drop 1:=y20 l 1;refine ip (c:=(x70 l (cutD l (some 1) none)).length<=most) (Ô (I80 _ _) (g80 ∅)) (Z30 (λx=>.bl (leD x)) (λx hx=>?_) (a20 (w70 _ leD) ?_ :))
    ·obtain⟨u,hu,v,hv,rfl⟩:=U40 hx;rw[e1] at hv;obtain⟨i,j,rfl,_⟩:=O80 (ha u hu);obtain⟨i',j',rfl,_⟩:=O80 (ha v (List.mem_of_mem_drop hv));exact⟨rfl,rfl⟩
    ·refine sb (b:=(x70 l (cutD l (some 1) none)).all leD) ?_;show _=(decide (l.length<=8)&&(l.all (λt=>w11 t m)&&Z80 l));rw[e1,h2,decide_eq_true h8,Æ2,Æ2];rfl
 |_=>exact sb rfl
def z82(a t:D):Bool:=match a with
 |.int m=>decide (1<=m)&&(decide (m<=6)&&U50 t m)|_=>false
def i72(x:D):Bool:=match x with
 |.tup [a,t]=>z82 a t|_=>false
theorem s31(k:Nat)(x:D)(z:Z):c20 T (k + 7) Z50 [.d x] z=some (.ok (.d (.bl (i72 x))) z):=by
 refine W.ok (p20 (ps:=1) (ns:=3) (b:=I50) rfl rfl (-0) ?_)
 cases x with
 |tup l =>
  match l with
  |[a,t] =>
   refine Wo (B20 (k + 3) a _) ?_;cases a with
   |int m =>
    refine ib (b:=decide (1<=m)) (λg1=>ib (b:=decide (m<=6)) (λg2=>Wo (U60 k t m _) ?_) λg2=>?_) λg1=>?_
    ·exact sb (show U50 t m=(decide (1<=m)&&(decide (m<=6)&&U50 t m)) by rw[g1,g2];rfl)
    ·exact sb (show false=(decide (1<=m)&&(decide (m<=6)&&U50 t m)) by rw[g1,g2];rfl)
    ·exact sb (show false=(decide (1<=m)&&(decide (m<=6)&&U50 t m)) by rw[g1];rfl)
   |_=>exact sb rfl
  |[]=>exact sb rfl|[_]=>exact sb rfl|_::_::_::_=>exact sb rfl
 |_=>exact sb rfl
theorem j20(k:Nat)(z:Z)(h:i72 x=true):c20 T (k + 8) h80 [.d x] z=some (.ok (.d .non) z) :=
 W.ok (p20 (ps:=1) (ns:=1) (b:=q50) rfl rfl (-0) (Wo (s31 k x z) (ie (b:=!i72 x) (by rw[h];rfl) (sd rfl))))
theorem D41(hj:0 < j):M60 .mod (.int i) (.int j)=some (.d (.int (i % j))):=by
 show(if 0 < j then some (S.d (.int (i % j))) else none)=_;rw[if_pos hj]
def GT(n:Nat)(a b:Int):Prop:=0<=b/\((∃ k:Nat,n=2 * k + 1/\b < 2 ^ k)∨∃ k:Nat,n=2 * k/\b < a/\a < 2 ^ k)
def big(b:Int):Prop:=b < 2 ^ 4000
def chI(t b:Int):Bool:=(decide (1<=b)&&decide (b<=1000))&&((decide (0<=t)&&decide (t<=b))&&(((gcd t b:Nat):Int) == 1))
def chP:D->D->Bool
 |.int t,.int b=>chI t b|_,_=>false
def chD:D->Bool
 |.tup [d,e]=>chP d e|_=>false
def ZI(z:Z):Prop:=∃ n b,z=some (n,b)/\0<=n/\(b=false->n < 2147483647)
theorem w42{T:List Df}{k f ps ns:Nat}{b:Sm}{l:List S}{z:Z}{Q:S->Z->Prop}{E:Nat->Z->Prop}(hz:ZI z)(h:T[f]?=some (.code ps ns b))(hl:l.length=ps)(hn:ps<=ns)(q:WS (S10 T (k + 2)) false b (start ns (l.map plS)) z (λo z1=>match o with
  |.nx _=>Q (.d .non) z1
  |.rt s=>Q s z1) E):W (c20 T (k + 3) f l) z Q E:=by
 obtain⟨n,c,rfl,_⟩:=hz;refine p20 h hl hn (q.mono (λo z1 h=>?_) λ_ _ h=>h);cases o <;> exact h
theorem s41{a:Int}{n:Nat}(h:a.natAbs < n)(hn:n<=2 ^ 64:=by decide):a.natAbs < l41:=Ö h (Ô hn (-0))
theorem f01{i j:Int}(hi:i.natAbs < 2 ^ 64)(hj:j.natAbs < 2 ^ 64):M60 .mul (.int i) (.int j)=some (.d (.int (i * j))):=by
 show(if i.natAbs < l41/\j.natAbs < l41 then some (S.d (.int (i * j))) else none)=_;rw[if_pos ⟨s41 hi,s41 hj⟩]
theorem w52{i j:Int}(hj:0 < j)(hb:j.natAbs < 2 ^ 64):M60 .fdiv (.int i) (.int j)=some (.d (.int (i / j))):=by
 show(if 0 < j/\j.natAbs < l41 then some (S.d (.int (i / j))) else none)=_;rw[if_pos ⟨hj,s41 hb⟩]
def Drawn(m:Int)(s:S)(z1:Z):Prop:=ZI z1/\∃ r:Nat,s=.d (.int r)/\(r:Int) < m
theorem p50(k:Nat)(m:Int)(hz:ZI z)(m0:0 < m)(m1:m < 2 ^ 32):W (c20 T (k + 3) c10 [.z,.d (.int m)]) z (Drawn m) NE:=by
 have fin:∀ (a:Int) (z1:Z),ZI z1->Drawn m (.d (.int (a % m))) z1:=λa z1 h=>by
  have h0:=emod_nonneg a (show m≠0 by omega)
  exact⟨h,(a % m).toNat,by rw[Int.toNat_of_nonneg h0],by rw[Int.toNat_of_nonneg h0];exact emod_lt_of_pos _ m0⟩
 refine w42 hz (ps:=2) (ns:=4) (b:=q90) rfl rfl (-0) ?_
 obtain⟨n,b,rfl,n0,n1⟩:=hz;cases b with
 |true =>
  refine(a20 (D41 (i:=n) m0) ?_ :);refine(a20 (w52 (i:=n) m0 ∅) ?_ :)
  exact fin n _ ⟨n / m,true,rfl,Int.ediv_nonneg n0 ∅,λh=>nomatch h⟩
 |false =>
  have n1:=n1 rfl;have e1:∀ a:Int,0<=a % 2147483647/\a % 2147483647 < 2147483647:=λa=>⟨emod_nonneg _ (-0),emod_lt_of_pos _ (-0)⟩
  have e2:∀ a:Int,0<=a % 2147483629/\a % 2147483629 < 2147483629:=λa=>⟨emod_nonneg _ (-0),emod_lt_of_pos _ (-0)⟩
  have s1:∀ a:Int,(a % 2147483647).natAbs < 2 ^ 64:=λa=>by have:=e1 a;omega
  have s2:∀ a:Int,(a % 2147483629).natAbs < 2 ^ 64:=λa=>by have:=e2 a;omega
  refine(a20 (f01 (i:=n) (j:=48271) ∅ (-0)) ?_ :)
  have a1:=e1 (n * 48271 + 29);refine(a20 (f01 (s1 (n * 48271 + 29)) (s1 (n * 48271 + 29))) ?_ :);refine(a20 (f01 (i:=39373) (-0) (s1 (n * 48271 + 29))) ?_ :)
  refine(a20 (f01 (s2 _) (s2 _)) ?_ :);refine(a20 (f01 (i:=16807) (-0) (s2 _)) ?_ :)
  refine(a20 (D41 m0) ?_ :);exact fin _ _ ⟨_,false,rfl,a1.1,λ_=>a1.2⟩
theorem f11(k:Nat)(ns:List Int)(j:Nat)(z:Z):∃ c:Int,c20 T (k + 3) p40 [.d (.lst (ns.map D.int)),.d (.int j)] z=some (.ok (.d (.int c)) z):=by
 by_cases h:j < ns.length
 ·refine⟨ns[j],W.ok (p20 (ps:=2) (ns:=2) (b:=f50) rfl rfl (-0) (it (b:=decide ((j:Int) < ((ns.map D.int).length:Int))) (by simp[h]) ?_))⟩
  refine(a20 (o:=l81 (.lst (ns.map D.int)) (.int j)) (L2.Q90 (v:=.int ns[j]) (by simp[h])) ?_ :)
  exact sd rfl
 ·exact⟨0,W.ok (p20 (ps:=2) (ns:=2) (b:=f50) rfl rfl (-0) (ie (b:=decide ((j:Int) < ((ns.map D.int).length:Int))) (by simp;omega) (sd rfl)))⟩
theorem D51(k:Nat)(ns:List Int)(j:Nat)(z:Z):∃ (n:Int) (b:Bool),ZI (some (n,b))/\c20 T (k + 4) w50 [.d (.lst (ns.map D.int)),.d (.int j)] z=some (.ok (.fr [.int n,.bl b]) z):=by
 obtain⟨c,hc⟩:=f11 k ns j z;by_cases h:(10 ^ 18:Int)<=c
 ·exact⟨c - 10 ^ 18,true,⟨_,_,rfl,by omega,λh=>nomatch h⟩,W.ok (p20 (ps:=2) (ns:=3) (b:=j00) rfl rfl (-0) (Wo hc (it (b:=decide ((10 ^ 18:Int)<=c)) (decide_eq_true h) (sd rfl))))⟩
 ·refine⟨c % 2147483647,false,⟨_,_,rfl,emod_nonneg _ (-0),λ_=>emod_lt_of_pos _ (-0)⟩,W.ok (p20 (ps:=2) (ns:=3) (b:=j00) rfl rfl (-0) (Wo hc (ie (b:=decide ((10 ^ 18:Int)<=c)) (decide_eq_false h) (sd rfl))))⟩
theorem O90(h0:0<=m)(h1:m < 100000):itD .rng1 [.int m]=some ((í m.toNat).map λ(i:Nat)=>D.int i):=by
 show(if inR m=true then _ else none)=_;rw[if_pos (G80.mpr ⟨by omega,h1⟩)]
theorem ne_nil(h:okD (.lst l)=true):C50 .ne (.lst l) (.lst [])=some (!l.isEmpty):=by
 show(eqO (.lst l) (.lst [])).map (!·)=_;unfold eqO;rw[h];cases l <;> rfl
theorem I90:∀ l:List Int,f60 (l.map D.int)=true/\i60 (l.map D.int)=0
 |[]=>⟨rfl,rfl⟩
 |x::r=>by
  obtain⟨h1,h2⟩:=I90 r;refine⟨h1,?_⟩;show Nat.max 0 (i60 (r.map D.int))=0;rw[h2];rfl
theorem s51(l:List Int):okD (.lst (l.map D.int))=true:=by
 obtain⟨h1,h2⟩:=I90 l;show(f60 (l.map D.int)&&decide (i60 (l.map D.int) + 1<=40))=true;rw[h1,h2];rfl
theorem D61(n:Nat):(í n).map (λ(i:Nat)=>D.int i)=((í n).map λ(i:Nat)=>(i:Int)).map D.int:=by
 rw[æ];rfl
theorem T91{l:List Int}{j:Nat}(h:j < l.length):(l.map D.int)[j]?=some (.int l[j]):=by rw[Þ,Ú h];rfl
theorem i82{j:Nat}(h:l[j]?=some x):l81 (.lst l) (.int j)=some x:=L2.Q90 h
theorem i92{j:Nat}(h:l[j]?=some x):l81 (.tup l) (.int j)=some x:=L2.Q90 h
def pr(p:Int × Int):D:=.tup [.int p.1,.int p.2]
def ky(p:Int × Int):List Int:=[p.1,p.2]
theorem J42(a b c d:Int):MySort.i30 [a,b] [c,d]=if a=c then(if b=d then false else decide (b < d)) else decide (a < c):=rfl
def Ch:List (Int × Int)->Prop
 |a::b::r=>HT.leB (ky a) (ky b)=true/\Ch (b::r)|_=>True
theorem Z90(h:MySort.i30 (ky p) (ky q)=true):HT.leB (ky p) (ky q)=true:=by
 unfold HT.leB;unfold ky at h ⊢;rw[J42] at h ⊢;by_cases h1:p.1=q.1
 ·rw[if_pos h1] at h;rw[if_pos h1.symm];by_cases h2:p.2=q.2
  ·rw[if_pos h2] at h;cases h
  ·rw[if_neg h2] at h;rw[if_neg (À1 h2)];simp only[decide_eq_true_eq] at h;simp;omega
 ·rw[if_neg h1] at h;rw[if_neg (À1 h1)];simp only[decide_eq_true_eq] at h;simp;omega
def w21(k:Int × Int):List (Int × Int)->List (Int × Int)
 |[]=>[k]|y::r=>if MySort.i30 (ky y) (ky k) then y::w21 k r else k::y::r
def f21:List (Int × Int)->List (Int × Int)
 |[]=>[]|k::r=>w21 k (f21 r)
theorem P00(k:Int × Int):∀ l,(w21 k l).Perm (k::l)
 |[]=>.refl _
 |y::r=>by
  unfold w21;split
  ·exact((P00 k r).cons y).trans (.swap _ _ _)
  ·exact .refl _
theorem E30:∀ l,(f21 l).Perm l
 |[]=>.refl _|k::r=>(P00 k _).trans ((E30 r).cons k)
theorem s61(k:Int × Int):∀ l,Ch l->Ch (w21 k l)
 |[],_=>trivial
 |[y],_=>by
  unfold w21;split
  ·rename_i h;exact⟨Z90 h,trivial⟩
  ·rename_i h;refine⟨?_,trivial⟩;unfold HT.leB;simpa using h
 |y::x::r,h=>by
  obtain⟨h1,h2⟩:=h;have ih:=s61 k (x::r) h2;unfold w21;split
  ·rename_i hy;unfold w21 at ih ⊢;split at ih
   ·rename_i hx;rw[if_pos hx];exact⟨h1,ih⟩
   ·rename_i hx;rw[if_neg hx];exact⟨Z90 hy,ih⟩
  ·rename_i hy;refine⟨?_,h1,h2⟩;unfold HT.leB;simpa using hy
theorem a01:∀ l,Ch (f21 l)
 |[]=>trivial|k::r=>s61 k _ (a01 r)
theorem a11(k:Int × Int):∀ l:List (Int × Int),A31 (pr k) (l.map pr)=(w21 k l).map pr
 |[]=>rfl
 |y::r=>by
  unfold w21;show(if MySort.i30 (ky y) (ky k) then pr y::A31 (pr k) (r.map pr) else pr k::pr y::r.map pr)=_;split
  ·rw[a11 k r];rfl
  ·rfl
theorem P10:∀ l:List (Int × Int),z90 (l.map pr)=(f21 l).map pr
 |[]=>rfl
 |k::r=>by
  show A31 (pr k) (z90 (r.map pr))=_;rw[P10 r,a11];rfl
theorem w62(p q:Int × Int):ltD (pr p) (pr q)=some (MySort.i30 (ky p) (ky q)):=by
 show(if (p.1 == q.1)=true then(if (p.2 == q.2)=true then some false else some (decide (p.2 < q.2))) else some (decide (p.1 < q.1)))=some (if p.1=q.1 then(if p.2=q.2 then false else decide (p.2 < q.2)) else decide (p.1 < q.1));simp only[beq_iff_eq];split
 ·split <;> rfl
 ·rfl
theorem U01(p q:Int × Int):k00 (pr p) (pr q)=true:=by
 unfold k00;rw[w62];show(true&&((some (MySort.i30 (ky p) (ky q)) == some (MySort.i30 (ky p) (ky q)))&&(((p.1 == q.1)&&((p.2 == q.2)&&true)) || !([p.1,p.2] == [q.1,q.2]))))=true;rw[beq_self_eq_true,Æ2,Æ2,Ý5];by_cases h1:p.1=q.1 <;> by_cases h2:p.2=q.2 <;> simp[h1,h2]
theorem s71(l:List (Int × Int)):o90 (l.map pr)=true:=by
 refine ø.mpr λx hx=>?_;obtain⟨p,_,rfl⟩:=Ð.mp hx;show(true&&(true&&(l.map pr).all (k00 (pr p))))=true;refine ø.mpr λy hy=>?_;obtain⟨q,_,rfl⟩:=Ð.mp hy;exact U01 p q
theorem s81(h:l.length < 64):bfD .sorted [.lst (l.map pr)]=some (.fr ((f21 l).map pr)):=by
 show(if (l.map pr).length < 64/\o90 (l.map pr)=true then some (S.fr (z90 (l.map pr))) else(y62 (l.map pr)).map S.fr)=_;rw[if_pos ⟨by rw[È];exact h,s71 l⟩,P10]
theorem a21:∀ {l:List (Int × Int)},Ch l->Z80 (l.map pr)=true
 |[],_=>rfl|[_],_=>rfl
 |a::b::r,h=>by
  have ih:=a21 h.2;show((x70 (pr a::pr b::r.map pr) (pr b::r.map pr)).all leD)=true;have e:x70 (pr a::pr b::r.map pr) (pr b::r.map pr)=.tup [pr a,pr b]::x70 (pr b::r.map pr) (r.map pr):=rfl;rw[e,Ä3,Á];exact⟨h.1,ih⟩
def J00(m:Int)(ps:List (Int × Int)):D:=.tup [.int m,.tup (ps.map pr)]
structure d40(m:Int)(ps:List (Int × Int)):Prop where
 m1:1<=m
 m6:m<=6
 len:ps.length<=8
 tie:∀ p∈ps,0<=p.1/\p.1 < p.2/\p.2 < m
 ch:Ch ps
theorem d40.web(g:d40 m ps):i72 (J00 m ps)=true:=by
 unfold J00 i72 z82 U50;simp only[Á,decide_eq_true_eq,Á5,È];refine⟨g.m1,g.m6,g.len,λt ht=>?_,a21 g.ch⟩;obtain⟨p,hp,rfl⟩:=Ð.mp ht;obtain⟨h1,h2,h3⟩:=g.tie p hp;unfold pr w11 c80;simp only[Á,decide_eq_true_eq];omega
theorem j02(h1:0<=i)(hi:i < 100)(h0:-100 < m)(h:m < 100000):itD .rng2 [.int i,.int m]=some ((í (m - i).toNat).map λ(k:Nat)=>D.int (i + k)):=by
 show(if inR i=true/\inR m=true then _ else none)=_;rw[if_pos ⟨G80.mpr ∅,G80.mpr ∅⟩]
theorem U11{L:List D}{n:Nat}(f:D->Bool)(h:n < L.length)(ha:L.all f=true):∃ x,L[n]?=some x/\f x=true :=
 ⟨L[n],Ú h,ø.mp ha _ (Æ0 h)⟩
def btw(a b:Int):D->Bool
 |.int i=>decide (a<=i)&&decide (i<=b)|_=>false
theorem j12(h:btw a b x=true):∃ i,x=.int i/\a<=i/\i<=b:=by
 cases x with
 |int i =>
  unfold btw at h;rw[Á,decide_eq_true_eq,decide_eq_true_eq] at h;exact⟨i,rfl,h⟩
 |_=>cases h
theorem s91(l:List D)(h:0<=n):cutD l none (some n)=l.take n.toNat:=by
 obtain⟨k,rfl⟩:=Ï3 h;have h1:HT.sIx l.length l.length (some (k:Int))=min k l.length:=HT.h71 _ _ k;unfold cutD;rw[h1];show(l.drop 0).take (min k l.length - 0)=_;rw[List.drop_zero,Nat.sub_zero,Â7];rcases Nat.le_total k l.length with h | h
 ·rw[Ò9 h]
 ·rw[Ù4 h,Ò5,Ï8 h]
theorem z92{α:Type}{l:List α}{a:α}:(l++[a]).length=l.length + 1:=by rw[À5];rfl
theorem J61(a b:Int):(if b < a then b else a)=min a b/\(if b > a then b else a)=max a b:=by
 constructor <;> (split <;> omega)
theorem P20{P:Int × Int->Prop}:∀ {xs ys:List D},PySem.Paired (λ_ y=>∃ c,y=pr c/\P c) xs ys->∃ cs:List (Int × Int),ys=cs.map pr/\cs.length=xs.length/\∀ c∈cs,P c
 |[],_,h=>by cases h;exact⟨[],rfl,rfl,λc hc=>nomatch hc⟩
 |x::r,_,h=>by
  cases h with
  |cons h1 h2 =>
   obtain⟨c,rfl,hc⟩:=h1;obtain⟨cs,rfl,hl,ha⟩:=P20 h2;refine⟨c::cs,rfl,by rw[ß,hl];rfl,λd hd=>?_⟩
   rcases å.mp hd with rfl | hd
   ·exact hc
   ·exact ha d hd
def l32(m:Int)(p:Int × Int):Prop:=0<=p.1/\p.1 < p.2/\p.2 < m
abbrev j22(mo m:Int)(ps:List (Int × Int))(o4 o5 o6:Option S):Env:=[some .z,some (.d (.int mo)),some (.d (.int m)),some (.fr (ps.map pr)),o4,o5,o6]
theorem j32:j22 mo m (ps++[p]) o4 o5 o6=[some .z,some (.d (.int mo)),some (.d (.int m)),some (.fr (ps.map pr++[pr p])),o4,o5,o6]:=by rw[j22,Ä8];rfl
theorem D71{mo m:Int}{ps:List (Int × Int)}(m1:1<=m)(m6:m<=6)(h0:0<=mo)(h8:mo<=8)(hp:∀ p∈ps,l32 m p)(hl:ps.length < 64):∃ qs,bfD .sorted [.lst (cutD (ps.map pr) none (some mo))]=some (.fr (qs.map pr))/\d40 m qs/\(qs.length:Int)<=mo:=by
 have hl':(ps.take mo.toNat).length < 64:=by rw[Ã7];omega
 refine⟨f21 (ps.take mo.toNat),by rw[s91 _ h0,← List.map_take];exact s81 hl',?_⟩
 have hperm:=E30 (ps.take mo.toNat);have hlen:=hperm.length_eq;rw[Ã7] at hlen;exact⟨⟨m1,m6,by omega,λq hq=>hp q (List.mem_of_mem_take (hperm.mem_iff.mp hq)),a01 _⟩,by omega⟩
theorem t01(k:Nat){mo:Int}{z:Z}(hz:ZI z)(h0:0<=mo)(h8:mo<=8):W (c20 T (k + 5) E10 [.z,.d (.int mo)]) z (λs z1=>ZI z1/\∃ m ps,s=.d (J00 m ps)/\d40 m ps/\(ps.length:Int)<=mo) NE:=by
 refine w42 hz (ps:=2) (ns:=7) (b:=v80) rfl rfl (-0) ?_
 refine(p50 (k + 1) 8 hz (-0) (-0)).imp λs z1 ⟨hz1,n,e,hn⟩=>?_
 subst e;obtain⟨x,ex,hx⟩:=U11 (L:=[D.int 6,.int 5,.int 4,.int 3,.int 4,.int 5,.int 2,.int 1]) (n:=n) (btw 1 6) (by simp only[ß,Ä2];omega) (-0)
 obtain⟨m,rfl,m1,m6⟩:=j12 hx;refine(a20 (i82 ex) ?_ :);refine(D21 (.fr []) (j22 mo m [] none none none) ?_ ?_ ?_ :)
 ·exact⟨rfl,rfl⟩
 ·rfl
 refine i02 (λρ z2=>ZI z2/\∃ ps:List (Int × Int),ρ=j22 mo m ps none none none/\(∀ p∈ps,l32 m p)/\ps.length<=5) ?_ ?_
 ·refine ib (b:=decide (1 < m)) (λh=>?_) λh=>⟨hz1,[],rfl,(λp hp=>nomatch hp),by simp⟩
  have h:=of_decide_eq_true h;refine(p50 (k + 1) 5 hz1 (-0) (-0)).imp λs z2 ⟨hz2,v,e,hv⟩=>?_
  subst e;refine ib (b:=decide (0 < (v:Int))) (λh1=>?_) λh1=>⟨hz2,[],rfl,(λp hp=>nomatch hp),by simp⟩
  refine(a20 (j02 (i:=1) (m:=m) (-0) (-0) ∅ ∅) ?_ :)
  refine ip (by rw[È,ð];simp only[most];omega) (J22 (I:=ZI) (P:=λ_ y=>∃ c,y=pr c/\l32 m c) hz2 (λx hx z3 hz3=>?_) λys z3 hz3 hys=>?_)
  ·obtain⟨i,hi,rfl⟩:=Ð.mp hx;have hi:=ù.mp hi;refine(p50 (k + 1) (1 + (i:Int)) hz3 ∅ ∅).imp λs z4 ⟨hz4,a,e,ha⟩=>?_
   subst e;exact⟨hz4,((a:Int),1 + (i:Int)),rfl,by show(0:Int)<=a;omega,ha,by show 1 + (i:Int) < m;omega⟩
  ·obtain⟨cs,rfl,hl,ha⟩:=P20 hys;rw[È,ð] at hl;exact⟨hz3,cs,rfl,ha,by omega⟩
 ·rintro ρ z2 ⟨hz2,ps,rfl,hp,hl⟩;refine(p50 (k + 1) (mo + 1) hz2 ∅ ∅).imp λs z3 ⟨hz3,t,e,ht⟩=>?_
  subst e;have hj:(if decide (1 < m)=true then(1:Int) else 0)=0∨((if decide (1 < m)=true then(1:Int) else 0)=1/\1 < m):=by
   by_cases h:1 < m
   ·exact .inr ⟨by rw[decide_eq_true h];rfl,h⟩
   ·exact .inl (by rw[decide_eq_false h];rfl)
  refine(a20 (f01 (i:=(t:Int)) (j:=if decide (1 < m)=true then(1:Int) else 0) ∅ (by rcases hj with h | h <;> (first | rw[h] | rw[h.1]) <;> decide)) ?_ :)
  have hc:∃ c:Nat,(t:Int) * (if decide (1 < m)=true then(1:Int) else 0)=c/\c<=8/\(0 < c->1 < m):=by
   rcases hj with h | h
   ·exact⟨0,by rw[h,Int.mul_zero];rfl,by omega,λh=>absurd h ∅⟩
   ·exact⟨t,by rw[h.1,Int.mul_one],by omega,λ_=>h.2⟩
  obtain⟨c,ec,hc8,hcm⟩:=hc;refine(a20 (o:=itD .rng1 [.int ((t:Int) * (if decide (1 < m)=true then(1:Int) else 0))]) (a:=(í c).map λ(i:Nat)=>D.int i) (by rw[ec,O90 ∅ ∅,Â7]) ?_ :)
  refine U10 (λxs ρ z=>ZI z/\(0 < xs.length->1 < m)/\∃ (ps:List (Int × Int)) (o4 o5 o6:Option S),ρ=j22 mo m ps o4 o5 o6/\(∀ p∈ps,l32 m p)/\ps.length + xs.length<=13) _ ⟨hz3,λh=>hcm (by rw[È,ð] at h;exact h),ps,_,_,_,rfl,hp,by rw[È,ð];omega⟩ ?_ ?_
  ·rintro x r ρ z4 ⟨hz4,hm,ps,o4,o5,o6,rfl,hp,hl⟩;have hm:=hm (by simp)
   refine(p50 (k + 1) m hz4 ∅ ∅).imp λs z5 ⟨hz5,a,e,ha⟩=>?_
   subst e;refine(p50 (k + 1) (m - 1) hz5 ∅ ∅).imp λs z6 ⟨hz6,b,e,hb⟩=>?_
   subst e;refine(a20 (D41 (i:=(a:Int) + 1 + b) (j:=m) ∅) ?_ :)
   have hq:0<=((a:Int) + 1 + b) % m/\((a:Int) + 1 + b) % m < m/\((a:Int) + 1 + b) % m≠a:=by
    refine⟨emod_nonneg _ ∅,emod_lt_of_pos _ ∅,?_⟩
    by_cases h:(a:Int) + 1 + b < m
    ·rw[Î1 ∅ h];omega
    ·rw[show(a:Int) + 1 + b=((a:Int) + 1 + b - m) + m from by omega,Int.add_emod_right,Î1 ∅ ∅];omega
   generalize ((a:Int) + 1 + b) % m=q at hq ⊢;refine ip ⟨rfl,by rw[È];simp only[most,ß] at hl ⊢;omega⟩ ?_
   refine⟨hz6,λ_=>hm,ps++[(min (a:Int) q,max (a:Int) q)],some (.d x),some (.d (.int a)),some (.d (.int q)),?_,λp hp'=>?_,by rw[z92];simp only[ß] at hl;omega⟩
   ·rw[j32,← (J61 (a:Int) q).1,← (J61 (a:Int) q).2];rfl
   ·rcases À2.mp hp' with h | h
    ·exact hp p h
    ·rw[Á1.mp h];show 0<=min (a:Int) q/\min (a:Int) q < max (a:Int) q/\max (a:Int) q < m;omega
  ·rintro ρ z4 ⟨hz4,_,ps,o4,o5,o6,rfl,hp,hl⟩;obtain⟨qs,e,g,hq⟩:=D71 m1 m6 h0 h8 hp (by simp only[Ä2] at hl;omega)
   refine(a20 e ?_ :);exact⟨hz4,m,qs,rfl,g,hq⟩
theorem t11(h:0 < b):0 < ((gcd t b:Nat):Int):=by
 have:=Int.gcd_pos_of_ne_zero_right (a:=t) (b:=b) ∅
 omega
def J80(t b:Int):Int × Int:=(t / gcd t b,b / gcd t b)
theorem U70(h0:0 < b):t=gcd t b * (J80 t b).1/\b=gcd t b * (J80 t b).2:=by
 constructor
 ·exact(Int.mul_ediv_cancel' (Int.gcd_dvd_left t b)).symm
 ·exact(Int.mul_ediv_cancel' (Int.gcd_dvd_right t b)).symm
theorem U21(h0:0 < b):gcd (J80 t b).1 (J80 t b).2=1:=Int.gcd_ediv_gcd_ediv_gcd_of_ne_zero_right ∅
theorem t21(h0:0 < b):0 < (J80 t b).2:=by
 have g0:=t11 (t:=t) h0;obtain⟨_,e⟩:=U70 (t:=t) h0;refine Int.pos_of_mul_pos_right (a:=gcd t b) ?_ g0;omega
theorem J71(h:gcd a b=1)(hd:b∣a * d):b∣d:=by
 have h1:Nat.Coprime b.natAbs a.natAbs:=by rw[Nat.coprime_comm];exact h
 exact Int.natAbs_dvd_natAbs.mp (h1.dvd_of_dvd_mul_left (by rw[← natAbs_mul];exact Int.natAbs_dvd_natAbs.mpr hd))
theorem f31(hb:0 < b)(hd:0 < d)(h1:gcd a b=1)(h2:gcd c d=1)(h:a * d=c * b):a=c/\b=d:=by
 have k1:b∣d:=J71 h1 ⟨c,by rw[h,Int.mul_comm]⟩
 have k2:d∣b:=J71 h2 ⟨a,by rw[← h,Int.mul_comm]⟩
 have e:b=d:=Int.le_antisymm (Int.le_of_dvd hd k1) (Int.le_of_dvd hb k2);subst e;exact⟨Í1 ∅ h,rfl⟩
def IsC(c:Int × Int):Prop:=1<=c.2/\c.2<=1000/\0<=c.1/\c.1<=c.2/\gcd c.1 c.2=1
theorem IsC.ch(h:IsC c):chD (pr c)=true:=by
 obtain⟨h1,h2,h3,h4,h5⟩:=h;show chI c.1 c.2=true;unfold chI;rw[h5,decide_eq_true h1,decide_eq_true h2,decide_eq_true h3,decide_eq_true h4];rfl
def ltP:D->Bool
 |.tup [.int a,.int b]=>decide (a < b)|_=>false
def f71(l:List D):Bool:=(x70 l (l.drop 1)).all ltP
def A02(m:Int):D->Bool
 |.tup l=>(l.all (λx=>c80 x m)&&f71 l)&&!l.isEmpty|_=>false
def short:D->Bool
 |.tup l=>decide (l.length<=1000)|_=>true
theorem D81(k:Nat)(h:∀ x∈l,c80 x m=true)(hl:l.length<=1000)(z:Z):c20 T (k + 3) r81 [.d (.tup l)] z=some (.ok (.d (.bl (f71 l))) z):=by
 have e1:cutD l (some 1) none=l.drop 1:=y20 l 1;refine W.ok (p20 (ps:=1) (ns:=1) (b:=U20) rfl rfl (-0) (ip (c:=(x70 l (cutD l (some 1) none)).length<=most) (Ô (I80 _ _) (g80 hl)) (Z30 (λx=>.bl (ltP x)) (λx hx=>?_) (a20 (w70 _ ltP) ?_ :))))
 ·obtain⟨u,hu,v,hv,rfl⟩:=U40 hx;rw[e1] at hv;obtain⟨i,rfl,_⟩:=k30 (h u hu);obtain⟨j,rfl,_⟩:=k30 (h v (List.mem_of_mem_drop hv));exact⟨rfl,rfl⟩
 ·exact sb (b:=(x70 l (cutD l (some 1) none)).all ltP) (by rw[e1];rfl)
theorem w80(k:Nat)(m:Int)(hs:short x=true)(z:Z):c20 T (k + 5) f20 [.d x,.d (.int m)] z=some (.ok (.d (.bl (match x with | .tup l=>l.all (λx=>c80 x m)&&f71 l | _=>false))) z):=by
 refine W.ok (p20 (ps:=2) (ns:=2) (b:=f30) rfl rfl (-0) ?_)
 cases x with
 |tup l =>
  have hl:l.length<=1000:=of_decide_eq_true hs;refine ip (g80 hl) (Z30 (λx=>.bl (c80 x m)) (λx _=>Wo (r10 k x m z) ⟨rfl,rfl⟩) (a20 (w70 l λx=>c80 x m) ?_ :));refine ib (b:=l.all λx=>c80 x m) (λh=>?_) λh=>sb (show false=(l.all (λx=>c80 x m)&&f71 l) by rw[h];rfl)
  exact Wo (D81 (k + 1) (ø.mp h) hl z) (sb (show f71 l=(l.all (λx=>c80 x m)&&f71 l) by rw[h];rfl))
 |_=>exact sb rfl
theorem i00(k:Nat)(z:Z)(h:A02 m x=true)(hs:short x=true):c20 T (k + 6) f40 [.d (.tup [.int m,t]),.d x] z=some (.ok (.d .non) z):=by
 refine W.ok (p20 (ps:=2) (ns:=2) (b:=j60) rfl rfl (-0) (Wo (w80 k m hs z) ?_))
 cases x with
 |tup l =>
  have h:((l.all (λx=>c80 x m)&&f71 l)&&!l.isEmpty)=true:=h;rw[Á] at h;refine ie (b:=!(l.all (λx=>c80 x m)&&f71 l)) (by rw[h.1];rfl) ?_
  cases l with
  |nil=>cases h.2
  |cons y r=>exact sd rfl
 |_=>cases h
def b30(n:Nat):D:=.int n
structure i70(m:Int)(l:List Nat):Prop where
 ne:l≠[]
 up:l.Pairwise (· < ·)
 lt:∀ p∈l,(p:Int) < m
theorem t31:∀ {l:List Nat},l.Pairwise (· < ·)->f71 (l.map b30)=true
 |[],_=>rfl|[_],_=>rfl
 |a::b::r,h=>by
  have ih:=t31 (Ô0.of_cons h);show(decide ((a:Int) < (b:Int))&&f71 ((b::r).map b30))=true;rw[ih,decide_eq_true (by have:=(Ì5.mp h).1 b Ë;omega)];rfl
theorem i70.pls(g:i70 m l):A02 m (.tup (l.map b30))=true:=by
 show(((l.map b30).all (λx=>c80 x m)&&f71 (l.map b30))&&!(l.map b30).isEmpty)=true;rw[t31 g.up,Ý5,Á];refine⟨ø.mpr λx hx=>?_,?_⟩
 ·obtain⟨p,hp,rfl⟩:=Ð.mp hx;have:=g.lt p hp;show(decide (0<=(p:Int))&&decide ((p:Int) < m))=true;rw[decide_eq_true this,decide_eq_true ∅];rfl
 ·cases l with
  |nil=>exact absurd rfl g.ne|cons _ _=>rfl
theorem i70.len(g:i70 m l)(h6:m<=6):l.length<=6:=by
 have:l.Sublist (í 6):=by
  have e:l=(í 6).filter λx=>l.contains x:=by
   refine Ù7 (le:=(· < ·)) ?_ g.up (Í8 _ Ç5) ?_
   ·intro a b _ _ h1 h2;omega
   ·refine(Ì4 (g.up.imp λh e=>by omega) (Í8 _ List.nodup_range)).mpr λa=>?_
    rw[mem_filter,mem_range,Ã9];exact⟨λh=>⟨by have:=g.lt a h;omega,h⟩,λh=>h.2⟩
  rw[e];exact List.filter_sublist
 simpa using this.length_le
theorem D91:∀ {ys:List D}{l:List Nat},ys.Sublist (l.map b30)->∃ l':List Nat,ys=l'.map b30/\l'.Sublist l:=λ{ys l} h=>by
 obtain⟨l',h1,h2⟩:=List.sublist_map_iff.mp h;exact⟨l',h2,h1⟩
theorem t41(n:Nat):((í n).map λ(i:Nat)=>D.int i)=(í n).map b30:=rfl
theorem A12(a b:Int):MySort.i30 [a] [b]=decide (a < b):=by
 show(if a=b then false else decide (a < b))=_;by_cases h:a=b
 ·rw[if_pos h,h];simp
 ·rw[if_neg h]
theorem a31(a b:Nat):k00 (b30 a) (b30 b)=true:=by
 show(true&&((some (decide ((a:Int) < b)) == some (MySort.i30 [(a:Int)] [(b:Int)]))&&(((a:Int) == b) || !([(a:Int)] == [(b:Int)]))))=true;rw[A12,beq_self_eq_true,Æ2,Æ2];by_cases h:(a:Int)=b <;> simp[h]
theorem f41(x y:Nat):bfD .sorted [.lst [b30 x,b30 y]]=some (.fr [b30 (min x y),b30 (max x y)]):=by
 have ok:o90 [b30 x,b30 y]=true:=by
  refine ø.mpr λu hu=>?_;have one:∀ a:Nat,(true&&(true&&[b30 x,b30 y].all (k00 (b30 a))))=true:=λa=>by
   show(k00 (b30 a) (b30 x)&&(k00 (b30 a) (b30 y)&&true))=true;rw[a31,a31];rfl
  simp only[Ã4,Â1,or_false] at hu;rcases hu with rfl | rfl
  ·exact one x
  ·exact one y
 have e:z90 [b30 x,b30 y]=[b30 (min x y),b30 (max x y)]:=by
  show(if MySort.i30 [(y:Int)] [(x:Int)] then [b30 y,b30 x] else [b30 x,b30 y])=_;rw[A12];by_cases h:(y:Int) < x
  ·rw[decide_eq_true h,if_pos rfl,Ù4 ∅,Nat.max_eq_left ∅]
  ·rw[decide_eq_false h,if_neg (-0),Ò9 ∅,Nat.max_eq_right ∅]
 show(if [b30 x,b30 y].length < 64/\o90 [b30 x,b30 y]=true then some (S.fr (z90 [b30 x,b30 y])) else _)=_;rw[if_pos ⟨by show 2 < 64;decide,ok⟩,e]
theorem P30(k:Nat)(m1:1<=m)(m6:m<=6)(hz:ZI z):W (c20 T (k + 4) t20 [.z,.d (.tup [.int m,t])]) z (λs z1=>ZI z1/\∃ l,s=.d (.tup (l.map b30))/\i70 m l) NE:=by
 have g2:i70 m (í m.toNat):=⟨by intro h;have:=congrArg Ù6 h;rw[ð] at this;simp at this;omega,Ç5,λp hp=>by have:=ù.mp hp;omega⟩
 refine w42 hz (ps:=2) (ns:=4) (b:=l30) rfl rfl (-0) ?_
 refine(p50 k 4 hz (-0) (-0)).imp λs z1 ⟨hz1,v,e,v1⟩=>?_
 subst e;refine i02 (λρ z2=>z2=z1/\1 < m/\ρ=[some .z,some (.d (.tup [.int m,t])),some (.d (.int v)),none]) ?_ ?_
 ·refine ib (b:=decide ((v:Int) < 2)) (λh=>?_) λh=>?_
  ·refine(a20 (O90 (m:=m) ∅ ∅) ?_ :)
   exact⟨hz1,_,rfl,g2⟩
  ·refine ib (b:=m == 1) (λh=>?_) λh=>?_
   ·refine(a20 (O90 (m:=m) ∅ ∅) ?_ :)
    exact⟨hz1,_,rfl,g2⟩
   ·have h:=ne_of_beq_false h;exact⟨rfl,by omega,rfl⟩
 ·rintro ρ z2 ⟨rfl,hm,rfl⟩;refine ib (b:=(v:Int) == 2) (λh=>?_) λh=>?_
  ·refine(p50 k m hz1 ∅ ∅).imp λs z3 ⟨hz3,a,e,ha⟩=>?_
   subst e;refine(p50 k (m - 1) hz3 ∅ ∅).imp λs z4 ⟨hz4,b,e,hb⟩=>?_
   subst e;refine(a20 (D41 (i:=(a:Int) + 1 + b) (j:=m) ∅) ?_ :)
   have hq:0<=((a:Int) + 1 + b) % m/\((a:Int) + 1 + b) % m < m/\((a:Int) + 1 + b) % m≠a:=by
    refine⟨emod_nonneg _ ∅,emod_lt_of_pos _ ∅,?_⟩
    by_cases h:(a:Int) + 1 + b < m
    ·rw[Î1 ∅ h];omega
    ·rw[show(a:Int) + 1 + b=((a:Int) + 1 + b - m) + m from by omega,Int.add_emod_right,Î1 ∅ ∅];omega
   generalize ((a:Int) + 1 + b) % m=q at hq ⊢;obtain⟨q,rfl⟩:=Ï3 hq.1;refine(a20 (f41 a q) ?_ :);refine⟨hz4,[min a q,max a q],rfl,by simp,?_,λp hp=>?_⟩
   ·refine .cons (λx hx=>?_) (.cons (λ_ h=>nomatch h) .nil);rw[Á1.mp hx];omega
   ·simp only[Ã4,Â1,or_false] at hp;rcases hp with rfl | rfl <;> omega
  ·refine(a20 (O90 (m:=m) ∅ ∅) ?_ :)
   refine ip (by rw[È,ð];simp only[most];omega) (i42 (I:=ZI) (λx=>x) hz1 (λx hx z3 hz3=>?_) λys z3 hz3 hs=>?_)
   ·refine(p50 k 2 hz3 (-0) (-0)).imp λs z4 ⟨hz4,a,e,a1⟩=>?_
    subst e;exact⟨hz4,(a:Int) == 1,rfl,λ_=>⟨rfl,rfl⟩⟩
   ·rw[map_id',t41] at hs;obtain⟨l,rfl,hl⟩:=D91 hs;cases l with
    |nil =>
     refine⟨hz3,[m.toNat - 1],?_,by simp,.cons (λ_ h=>nomatch h) .nil,λq hq=>by rw[Á1.mp hq];omega⟩
     show S.d (.tup [.int (m - 1)])=S.d (.tup [.int ((m.toNat - 1:Nat):Int)]);rw[show(m - 1)=((m.toNat - 1:Nat):Int) by omega]
    |cons p r=>exact⟨hz3,p::r,rfl,by simp,Ô0.sublist hl Ç5,λq hq=>by have:=ù.mp (hl.mem hq);omega⟩
section
variable (ps:List (Int × Int))
abbrev tA(n:Nat):Nat:=(ps.getD n (0,0)).1.toNat
abbrev tB(n:Nat):Nat:=(ps.getD n (0,0)).2.toNat
def i10(mk:List Int)(n:Nat):List Int:=mk.map λx=>if x=mk.getD (tB ps n) 0 then mk.getD (tA ps n) 0 else x
def e20(m:Nat)(lot:List Nat):List Int:=lot.foldl (i10 ps) ((í m).map λ(i:Nat)=>(i:Int))
def t51(mk:List Int)(pl:List Nat):Bool:=pl.all λp=>mk.getD p 0 == mk.getD (pl.getD 0 0) 0
def e30(m:Nat)(pl lot:List Nat):Bool:=t51 (e20 ps m lot) pl
variable {ps}
theorem y30(mk:List Int)(n:Nat):(i10 ps mk n).length=mk.length:=È _
theorem step_get(h:x < mk.length):(i10 ps mk n).getD x 0=if mk.getD x 0=mk.getD (tB ps n) 0 then mk.getD (tA ps n) 0 else mk.getD x 0:=by
 unfold i10;rw[Ù,Þ,Ú h];simp[Ù,Ú h]
theorem t40:(e20 ps m lot).length=m:=by
 unfold e20;have:∀ (l:List Nat) (mk:List Int),(l.foldl (i10 ps) mk).length=mk.length:=by
  intro l
  induction l with
  |nil=>intro mk;rfl|cons n r ih=>intro mk;rw[Ê7,ih,y30]
 rw[this];simp
theorem f51(hr:∀ n < ps.length,tA ps n < m/\tB ps n < m):∀ (lot:List Nat) (mk:List Int),mk.length=m->(∀ n∈lot,n < ps.length) ->
  (∀ x y,x < m->y < m->mk.getD x 0=mk.getD y 0->(lot.foldl (i10 ps) mk).getD x 0=(lot.foldl (i10 ps) mk).getD y 0)/\(∀ n∈lot,(lot.foldl (i10 ps) mk).getD (tA ps n) 0=(lot.foldl (i10 ps) mk).getD (tB ps n) 0) /\
  ∀ f:Nat->Int,(∀ x y,x < m->y < m->mk.getD x 0=mk.getD y 0->f x=f y)->(∀ n∈lot,f (tA ps n)=f (tB ps n))->∀ x y,x < m->y < m->(lot.foldl (i10 ps) mk).getD x 0=(lot.foldl (i10 ps) mk).getD y 0->f x=f y:=by
 intro lot
 induction lot with
 |nil=>exact λmk _ _=>⟨λ_ _ _ _ h=>h,(λ_ h=>nomatch h),λf h _=>h⟩
 |cons n r ih =>
  intro mk hl hn;obtain⟨ha,hb⟩:=hr n (hn n Ë);obtain⟨i1,i2,i3⟩:=ih (i10 ps mk n) (by rw[y30];exact hl) λk hk=>hn k (Í _ hk)
  have st:∀ x,x < m->(i10 ps mk n).getD x 0=if mk.getD x 0=mk.getD (tB ps n) 0 then mk.getD (tA ps n) 0 else mk.getD x 0:=λx hx=>step_get ∅
  refine⟨λx y hx hy h=>i1 x y hx hy (by rw[st x hx,st y hy,h]),λk hk=>?_,λf h1 h2=>?_⟩
  ·rcases å.mp hk with rfl | hk
   ·refine i1 _ _ ha hb ?_;rw[st _ ha,st _ hb,if_pos rfl];split <;> rfl
   ·exact i2 k hk
  ·refine i3 f (λx y hx hy h=>?_) λk hk=>h2 k (Í _ hk);have e:=h2 n Ë;rw[st x hx,st y hy] at h;split at h
   ·rename_i hxb;have fx:=h1 _ _ hx hb hxb;split at h
    ·rename_i hyb;rw[fx,h1 _ _ hy hb hyb]
    ·rw[fx,← e];exact h1 _ _ ha hy h
   ·split at h
    ·rename_i hyb;rw[h1 _ _ hy hb hyb,← e];exact h1 _ _ hx ha h
    ·exact h1 _ _ hx hy h
theorem P40(h:x < m):(((í m).map λ(i:Nat)=>(i:Int))).getD x 0=(x:Int):=by
 rw[Ù,Þ,Ó4 h];rfl
theorem a41{m:Nat}(hr:∀ n < ps.length,tA ps n < m/\tB ps n < m){pl lot:List Nat}(hp:∀ p∈pl,p < m)(hl:∀ n∈lot,n < ps.length):e30 ps m pl lot=true↔∀ f:Nat->Int,(∀ n∈lot,f (tA ps n)=f (tB ps n))->∀ p∈pl,f p=f (pl.getD 0 0):=by
 obtain⟨_,h2,h3⟩:=f51 hr lot ((í m).map λ(i:Nat)=>(i:Int)) (by simp) hl
 unfold e30 t51;rw[Á5];have h0:∀ p∈pl,pl.getD 0 0 < m:=λp hp'=>by
  cases pl with
  |nil=>cases hp'
  |cons q r=>exact hp q Ë
 constructor
 ·intro h f hf p hp';refine h3 f (λx y hx hy e=>?_) hf p _ (hp p hp') (h0 p hp') (beq_iff_eq.mp (h p hp'));rw[P40 hx,P40 hy] at e;rw[Int.ofNat_inj.mp e]
 ·intro h p hp';rw[beq_iff_eq];exact h (λx=>(e20 ps m lot).getD x 0) h2 p hp'
theorem good_mono{m:Nat}(hr:∀ n < ps.length,tA ps n < m/\tB ps n < m){pl a b:List Nat}(hp:∀ p∈pl,p < m)(hb:∀ n∈b,n < ps.length)(hab:∀ n∈a,n∈b)(h:e30 ps m pl a=true):e30 ps m pl b=true :=
 (a41 hr hp hb).mpr λf hf=>(a41 hr hp λn hn=>hb n (hab n hn)).mp h f λn hn=>hf n (hab n hn)
end
section
variable (g:List Nat->Bool) (c:Nat->Int × Int)
variable {g c}
def c00:Nat->List (List Nat)
 |0=>[[]]|j + 1=>c00 j++(c00 j).map (·++[j])
theorem i20:∀ {j:Nat}{lot:List Nat},lot∈c00 j->∀ n∈lot,n < j
 |0,lot,h,n,hn=>by rw[Á1.mp h] at hn;cases hn
 |j + 1,lot,h,n,hn=>by
  rcases À2.mp h with h | h
  ·exact È6 (i20 h n hn)
  ·obtain⟨l,hl,rfl⟩:=Ð.mp h;rcases À2.mp hn with hn | hn
   ·exact È6 (i20 hl n hn)
   ·rw[Á1.mp hn];exact Ù5 j
def u00(l:List (List Nat))(f:List Nat->Int):Int:=(l.map f).foldr (· + ·) 0
theorem E01:u00 (a.map t) f=u00 a λx=>f (t x):=by
 unfold u00;rw[æ];rfl
end
theorem itE{it:It}{e:Ex}{l:List S}{ρ:Env}(h:N10 l=true):m41 it e l ρ=N20 it e l ρ:=by unfold m41;rw[h,N00];rfl
theorem o40:∀ l:List Nat,q10 (l.map b30)=true
 |[]=>rfl|_::r=>o40 r
structure Row(x:D)(lot:List Nat):Prop where
 sq:l61 x=some (lot.map b30)
 br:O51 x=true
theorem Row.t(lot:List Nat):Row (.tup (lot.map b30)) lot:=⟨rfl,o40 lot⟩
theorem Row.ba(h:Row x lot):N10 [.d x]=true:=by
 show(O51 x&&true)=true;rw[h.br];rfl
theorem t61{mk:List Int}{a:Int}(h0:0<=a)(h:a.toNat < mk.length):l81 (.lst (mk.map D.int)) (.int a)=some (.int (mk.getD a.toNat 0)):=by
 obtain⟨n,rfl⟩:=Ï3 h0;rw[Â7] at h ⊢;rw[Ù,Ú h];exact i82 (T91 h)
theorem j42{ps:List (Int × Int)}{n:Nat}(h:n < ps.length):l81 (.tup (ps.map pr)) (.int n)=some (pr (ps.getD n (0,0))):=by
 rw[Ù,Ú h];exact i92 (by rw[Þ,Ú h];rfl)
theorem getD_mem{ps:List (Int × Int)}{n:Nat}(h:n < ps.length):ps.getD n (0,0)∈ps:=by
 rw[Ù,Ú h];exact Æ0 h
theorem d40.rng{m:Int}{ps:List (Int × Int)}(g:d40 m ps):∀ n < ps.length,tA ps n < m.toNat/\tB ps n < m.toNat:=λn hn=>by
 have:=g.tie _ (getD_mem hn);unfold tA tB;omega
def A22(a b:Int):D->D
 |.int v=>.int (if v=b then a else v)|x=>x
theorem U31{F:FT}{z:Z}{mk:List Int}(a b:Int){Q:List D->Z->Prop}{E:Nat->Z->Prop}(q:Q ((mk.map λx=>if x=b then a else x).map D.int) z):W (turns (o50 (ev F .nil) (ev F (.ite (.cmp .eq (.var 0) (.var 2)) (.var 1) (.var 0))) (.v 0) [none,some (.d (.int a)),some (.d (.int b))]) (mk.map D.int)) z Q E:=by
 refine Z30 (A22 a b) (λx hx=>?_) ?_
 ·obtain⟨v,_,rfl⟩:=Ð.mp hx;refine ib (b:=v == b) (λh=>⟨?_,rfl⟩) λh=>⟨?_,rfl⟩
  ·show D.int a=.int (if v=b then a else v);rw[if_pos (beq_iff_eq.mp h)]
  ·show D.int v=.int (if v=b then a else v);rw[if_neg (by simpa using h)]
 ·have e:(mk.map D.int).map (A22 a b)=(mk.map λx=>if x=b then a else x).map D.int:=by rw[æ,æ];rfl
  rw[e];exact q
theorem B30(k:Nat){m:Int}{ps:List (Int × Int)}(g:d40 m ps){x:D}{lot:List Nat}(hx:Row x lot)(hl:∀ n∈lot,n < ps.length)(z:Z):c20 T (k + 3) u80 [.d (J00 m ps),.d x] z=some (.ok (.fr ((e20 ps m.toNat lot).map D.int)) z):=by
 have m6:=g.m6;have m1:=g.m1;refine W.ok (p20 (ps:=2) (ns:=10) (b:=v60) rfl rfl (-0) ?_)
 refine(a20 (o:=lrD [.int m]) (O90 ∅ ∅) ?_ :)
 refine a20 (o:=l61 x) hx.sq ?_;refine U10 (λxs ρ z1=>z1=z/\∃ (rest:List Nat) (mk:List Int) (o5 o6 o7 o8 o9:Option S),xs=rest.map b30/\(∀ n∈rest,n < ps.length)/\mk.length=m.toNat/\rest.foldl (i10 ps) mk=e20 ps m.toNat lot/\ρ=[some (.d (J00 m ps)),some (.d x),some (.d (.int m)),some (.d (.tup (ps.map pr))),some (.fr (mk.map D.int)),o5,o6,o7,o8,o9]) _ ⟨rfl,lot,(í m.toNat).map λ(i:Nat)=>(i:Int),none,none,none,none,none,rfl,hl,by simp,rfl,(itE hx.ba).trans ?_⟩ ?_ ?_
 ·rw[← D61];rfl
 ·rintro y r ρ z1 ⟨rfl,rest,mk,o5,o6,o7,o8,o9,e,hr,hm,hf,rfl⟩;cases rest with
  |nil=>cases e
  |cons n rest =>
   cases e;have hn:=hr n Ë;have ht:=g.tie _ (getD_mem hn);refine(a20 (j42 hn) ?_ :);refine(a20 (t61 (mk:=mk) ht.1 ∅) ?_ :)
   refine(a20 (t61 (mk:=mk) (a:=(ps.getD n (0,0)).2) ∅ ∅) ?_ :)
   refine ip (by rw[È];simp only[most];omega) (U31 _ _ ?_)
   exact⟨rfl,rest,i10 ps mk n,_,_,_,_,_,rfl,λk hk=>hr k (Í _ hk),by rw[y30];exact hm,hf,rfl⟩
 ·rintro ρ z1 ⟨rfl,rest,mk,o5,o6,o7,o8,o9,e,hr,hm,hf,rfl⟩;cases rest with
  |nil=>exact sd (by rw[← hf];rfl)|cons _ _=>cases e
section
variable {m:Int}{ps:List (Int × Int)}{pl lot:List Nat}
theorem j52{mk:List Int}{p:Nat}(h:p < mk.length):l81 (.lst (mk.map D.int)) (.int p)=some (.int (mk.getD p 0)):=t61 (a:=(p:Int)) ∅ (by rw[Â7];exact h)
theorem j62(h:pl≠[]):l81 (.tup (pl.map b30)) (.int 0)=some (b30 (pl.getD 0 0)):=by
 cases pl with
 |nil=>exact absurd rfl h|cons p r=>exact i92 (j:=0) rfl
theorem i70.p0(hp:i70 m pl):pl.getD 0 0 < m.toNat:=by
 have h:=hp.ne;have h2:=hp.lt;cases pl with
 |nil=>exact absurd rfl h|cons p r=>have:=h2 p Ë;show p < _;omega
def eqM(mk:List Int)(p0:Nat):D->Bool
 |.int p=>mk.getD p.toNat 0 == mk.getD p0 0|_=>false
theorem U41(l:List Nat):(l.map b30).all (eqM mk p0)=l.all λp=>mk.getD p 0 == mk.getD p0 0:=by rw[all_map];rfl
theorem l50(k:Nat)(g:d40 m ps)(hp:i70 m pl){x:D}(hx:Row x lot)(hl:∀ n∈lot,n < ps.length)(z:Z):c20 T (k + 4) i90 [.d (J00 m ps),.d x,.d (.tup (pl.map b30))] z=some (.ok (.d (.bl (e30 ps m.toNat pl lot))) z):=by
 have hlen:=hp.len g.m6;refine W.ok (p20 (ps:=3) (ns:=4) (b:=n00) rfl rfl (-0) (Wo (B30 k g hx hl z) ?_))
 have ml:(e20 ps m.toNat lot).length=m.toNat:=t40;generalize hmk:e20 ps m.toNat lot=mk at ml;refine ip (by rw[È];simp only[most];omega) (Z30 (λx=>.bl (eqM mk (pl.getD 0 0) x)) (λy hy=>?_) (a20 (w70 _ (eqM mk (pl.getD 0 0))) ?_ :))
 ·obtain⟨p,hp',rfl⟩:=Ð.mp hy;have:=hp.lt p hp';refine(a20 (j52 (mk:=mk) (p:=p) ∅) ?_ :)
  refine(a20 (j62 hp.ne) ?_ :);refine(a20 (j52 (mk:=mk) (by rw[ml];exact hp.p0)) ?_ :)
  exact⟨rfl,rfl⟩
 ·refine sb (b:=(pl.map b30).all (eqM mk (pl.getD 0 0))) ?_;rw[U41,← hmk];rfl
theorem t71(h:okD (.lst l)=true):C50 .eq (.lst l) (.lst [])=some l.isEmpty:=by
 show(if okD (.lst l)&&okD (.lst []) then some (eqD (.lst l) (.lst [])) else eqE (.lst l) (.lst []))=_;rw[h];cases l <;> rfl
theorem J10(l:List Nat):okD (.lst (l.map b30))=true:=by
 have e:l.map b30=(l.map λ(n:Nat)=>(n:Int)).map D.int:=by rw[æ];rfl
 rw[e];exact s51 _
end
def b70(l:List Nat):D:=.tup (l.map b30)
theorem y40:∀ {j:Nat}{lot:List Nat},lot∈c00 j->lot.length<=j
 |0,lot,h=>by rw[Á1.mp h];exact É _
 |j + 1,lot,h=>by
  rcases À2.mp h with h | h
  ·exact Ö3 (y40 h)
  ·obtain⟨l,hl,rfl⟩:=Ð.mp h;rw[z92];exact É7 (y40 hl)
theorem t50:∀ j:Nat,(c00 j).length=2 ^ j
 |0=>rfl
 |j + 1=>by
  show(c00 j++(c00 j).map (·++[j])).length=_;rw[À5,È,t50 j,Nat.pow_succ];omega
theorem t81(h:j<=8):2 ^ j<=256:=Ò1 (n:=2) (-0) h
theorem add_l(h:a.length + b.length<=1000):M60 .add (.lst a) (.lst b)=some (.fr (a++b)):=by
 show(if a.length + b.length<=most then some (S.fr (a++b)) else none)=_;rw[if_pos (g80 h)]
theorem j72(h:a.length + b.length<=1000):M60 .add (.tup a) (.tup b)=some (.d (.tup (a++b))):=by
 show(if a.length + b.length<=most then some (S.d (.tup (a++b))) else none)=_;rw[if_pos (g80 h)]
def A32(j:Nat):D->D
 |.tup l=>.tup (l++[b30 j])|x=>x
theorem E11:((c00 j).map b70).map (A32 j)=((c00 j).map (·++[j])).map b70:=by
 rw[æ,æ];refine Ä1 λl _=>?_;show D.tup (l.map b30++[b30 j])=.tup ((l++[j]).map b30);rw[Ä8];rfl
theorem B40{n:Nat}(h:n < 100000):itD .rng1 [.int n]=some ((Ã0 0 n).map b30):=by
 rw[O90 ∅ ∅,Â7,Æ3];rfl
theorem a51(n:Nat):∀ l:List Nat,memD (b30 n) (l.map b30)=decide (n∈l)
 |[]=>rfl
 |x::r=>by
  show((x:Int) == (n:Int) || memD (b30 n) (r.map b30))=_;rw[a51 n r,Å0,Å5,beq_iff_eq,decide_eq_true_eq,decide_eq_true_eq,Ã4];constructor
  ·rintro (h | h)
   ·exact .inl ∅
   ·exact .inr h
  ·rintro (h | h)
   ·exact .inl ∅
   ·exact .inr h
theorem t91(l:List Nat):H61 (l.map b30)=true:=by
 have e:l.map b30=(l.map λ(n:Nat)=>(n:Int)).map D.int:=by rw[æ];rfl
 obtain⟨h1,h2⟩:=I90 (l.map λ(n:Nat)=>(n:Int));unfold H61;rw[e,h1,h2];rfl
theorem J20{n:Nat}{l:List Nat}:e01 (b30 n) (l.map b30)=some (decide (n∈l)):=by
 unfold e01;rw[t91,a51];rfl
section
variable {m:Int}{ps cs:List (Int × Int)}{pl:List Nat}
theorem U51(g:d40 m ps)(hp:i70 m pl):∀ a b:List Nat,(∀ n∈b,n < ps.length)->(∀ n∈a,n∈b)->e30 ps m.toNat pl a=true->e30 ps m.toNat pl b=true:=λ_ _ hb hab h=>good_mono g.rng (λp q=>by have:=hp.lt p q;omega) hb hab h
end
theorem u01(h0:0 < b):(J80 t b).1 * b=(J80 t b).2 * t:=by
 obtain⟨e1,e2⟩:=U70 (t:=t) h0;generalize (J80 t b).1=x at *
 generalize (J80 t b).2=y at *
 generalize ((gcd t b:Nat):Int)=k at *
 rw[e1,e2]
 grind
def x30(k:Nat):List (List Nat):=(TS.sN k).map (TS.z50 k 0)
theorem P50(h:k<=8):c00 k=(í (2 ^ k)).map (TS.z50 k 0):=by
 have:∀ k,k < 9->c00 k=(í (2 ^ k)).map (TS.z50 k 0):=by decide +kernel
 exact this k ∅
theorem k40(h:k<=8):(x30 k).Perm (c00 k):=by
 have:∀ k,k < 9->(TS.sN k).isPerm (í (2 ^ k))=true:=by decide +kernel
 rw[P50 h];exact(List.isPerm_iff.mp (this k ∅)).map _
theorem j82(h:k<=8):(c00 k).map b70=g60 k:=by
 rw[P50 h];unfold g60;rw[æ];rfl
theorem U80(h:k<=8):bfD .sorted [.lst ((c00 k).map b70)]=some (.fr ((x30 k).map b70)):=by
 have h1:∀ k,k < 9->o90 (g60 k)=false:=by decide +kernel
 have h2:∀ k,k < 9->((í 9).find? λj=>Q10 (g60 k) (g60 j))=some k:=by decide +kernel
 rw[j82 h];show(if (g60 k).length < 64/\o90 (g60 k)=true then some (S.fr (z90 (g60 k))) else((((í 9).find? λj=>Q10 (g60 k) (g60 j)).map A41).map S.fr))=_;rw[if_neg (λq=>by rw[h1 k ∅] at q;cases q.2),h2 k ∅]
 show some (S.fr (A41 k))=some (S.fr ((x30 k).map b70));rw[x30,æ];rfl
theorem E21{i:Nat}(hi:T[i]?=some (.code 1 3 o30))(k:Nat){m:Int}{ts:List D}(h8:ts.length<=8)(z:Z):c20 T (k + 3) i [.d (.tup [.int m,.tup ts])] z=some (.ok (.fr ((x30 ts.length).map b70)) z):=by
 refine W.ok (p20 (ps:=1) (ns:=3) (b:=o30) hi rfl (-0) ?_)
 refine(a20 (B40 (n:=ts.length) ∅) ?_ :)
 refine U10 (λxs ρ z1=>z1=z/\∃ (j r:Nat) (o2:Option S),j + r=ts.length/\xs=(Ã0 j r).map b30/\ρ=[some (.d (.tup [.int m,.tup ts])),some (.fr ((c00 j).map b70)),o2]) _ ⟨rfl,0,ts.length,none,zero_add _,rfl,rfl⟩ ?_ ?_
 ·rintro x r ρ z1 ⟨rfl,j,r',o2,hj,e,rfl⟩;cases r' with
  |zero=>cases e
  |succ r' =>
   rw[Ê3] at e;cases e;have hp:=t81 (j:=j) ∅
   refine ip (by rw[È,t50];simp only[most];omega) (Z30 (A32 j) (λy hy=>?_) ?_)
   ·obtain⟨l,hl,rfl⟩:=Ð.mp hy;have:=y40 hl;refine(a20 (j72 (a:=l.map b30) (b:=[b30 j]) (by rw[È];show _ + 1<=_;omega)) ?_ :)
    exact⟨rfl,rfl⟩
   ·rw[E11];refine(a20 (add_l (a:=(c00 j).map b70) (b:=((c00 j).map (·++[j])).map b70) (by rw[È,È,È,t50];omega)) ?_ :)
    refine⟨rfl,j + 1,r',some (.d (b30 j)),by omega,rfl,?_⟩
    exact congrArg (λl=>[some (S.d (.tup [.int m,.tup ts])),some (.fr l),some (.d (b30 j))]) Ä8.symm
 ·rintro ρ z1 ⟨rfl,j,r',o2,hj,e,rfl⟩;cases r' with
  |zero =>
   have hj:j=ts.length:=hj;subst hj;refine(a20 (U80 h8) ?_ :);exact sd rfl
  |succ r'=>rw[Ê3] at e;cases e
theorem B50(k:Nat){m:Int}{ts:List D}(h8:ts.length<=8)(z:Z):c20 T (k + 3) u90 [.d (.tup [.int m,.tup ts])] z=some (.ok (.fr ((x30 ts.length).map b70)) z):=E21 rfl k h8 z
def r20:D->List Nat
 |.tup l=>l.map λx=>match x with | .int i=>i.toNat | _=>0
 |_=>[]
theorem e60(l:List Nat):r20 (b70 l)=l:=by
 show(l.map b30).map _=l;rw[æ];exact Ó0 l
theorem U61(h:k<=8)(hl:lot∈x30 k):∀ n∈lot,n < k:=i20 ((k40 h).mem_iff.mp hl)
theorem y50(h:k<=8):(x30 k).length<=256:=by rw[(k40 h).length_eq,t50];exact t81 h
section
variable {m:Int}{ps cs:List (Int × Int)}{pl:List Nat}
abbrev b60(m:Int)(ps:List (Int × Int))(pl:List Nat):List (List Nat):=(x30 ps.length).filter (e30 ps m.toNat pl)
theorem j30(k:Nat)(g:d40 m ps)(hp:i70 m pl)(z:Z):c20 T (k + 9) h90 [.d (J00 m ps),.d (.tup (pl.map b30))] z=some (.ok (.fr ((b60 m ps pl).map b70)) z):=by
 have h8:=g.len;have h6:=hp.len g.m6;refine W.ok (p20 (ps:=2) (ns:=2) (b:=q80) rfl rfl (-0) (Wo (j20 k z g.web) (Wo (i00 (k + 2) (t:=.tup (ps.map pr)) z hp.pls (decide_eq_true (by rw[È];omega))) (Wo (B50 (k + 5) (m:=m) (ts:=ps.map pr) (by rw[È];exact h8) z) ?_))))
 rw[È];refine ip (by rw[È];exact g80 (Ô (y50 h8) (-0))) (r61 (λx=>e30 ps m.toNat pl (r20 x)) id (λx hx=>?_) ?_)
 ·obtain⟨l,hl,rfl⟩:=Ð.mp hx;refine Wo (l50 (k + 4) g hp (Row.t l) (U61 h8 hl) z) ⟨?_,rfl,λ_=>⟨rfl,rfl⟩⟩;rw[e60]
 ·refine sd ?_;rw[Ó0,É1];have:(x30 ps.length).filter ((λx=>e30 ps m.toNat pl (r20 x)) ∘ b70)=b60 m ps pl:=Ð5 λl _=>by show e30 ps m.toNat pl (r20 (b70 l))=_;rw[e60]
  rw[this]
theorem B60(h:a.Perm b):u00 a f=u00 b f:=by
 unfold u00;exact(h.map f).foldr_eq' (λx _ y _ z=>by omega) 0
theorem B70(g:List Nat->Bool)(f:List Nat->Int):∀ a:List (List Nat),u00 (a.filter g) f=u00 a λl=>if g l then f l else 0
 |[]=>rfl
 |x::r=>by
  have ih:=B70 g f r;show _=(if g x=true then f x else 0) + u00 r _;rw[List.filter_cons,← ih];cases g x with
  |true=>rfl|false=>show _=0 + _;rw[Int.zero_add];rfl
end
theorem u11{j:Nat}{lot:List Nat}(h:lot∈c00 j):j ∉ lot:=λq=>À4 j (i20 h j q)
theorem v90{f g:List Nat->Int}:∀ {a:List (List Nat)},(∀ x∈a,f x=g x)->u00 a f=u00 a g
 |[],_=>rfl
 |x::r,h=>by
  show f x + u00 r f=g x + u00 r g;rw[h x Ë,v90 λy hy=>h y (Í _ hy)]
def c60(j:Nat)(lot:List Nat):List Nat:=(í j).filter λn=>!lot.contains n
theorem E31{j:Nat}{lot:List Nat}:c60 j (lot++[j])=c60 j lot:=by
 unfold c60;refine Ð5 λn hn=>?_;have hn:=ù.mp hn;have:(lot++[j]).contains n=lot.contains n:=by
  rw[Å0,Ã9,Ã9,mem_append];exact⟨λh=>h.elim id λh=>absurd (Á1.mp h) ∅,.inl⟩
 rw[this]
theorem J30{j:Nat}{lot:List Nat}(h:j ∉ lot):c60 (j + 1) lot=c60 j lot++[j]:=by
 unfold c60;rw[List.range_succ,List.filter_append]
 congr 1
 have:lot.contains j=false:=by rw[Bool.eq_false_iff];exact λq=>h (Ê2.mp q)
 simp[h]
theorem U90{j:Nat}{lot:List Nat}:c60 (j + 1) (lot++[j])=c60 j lot:=by
 rw[← E31 (j:=j) (lot:=lot)];unfold c60;rw[List.range_succ,List.filter_append];simp
theorem B80:∀ j:Nat,((c00 j).map (c60 j)).Perm (c00 j)
 |0=>.refl _
 |j + 1=>by
  show((c00 j++(c00 j).map (·++[j])).map (c60 (j + 1))).Perm (c00 j++(c00 j).map (·++[j]));rw[Ä8,æ];have e1:(c00 j).map (c60 (j + 1))=((c00 j).map (c60 j)).map (·++[j]):=by
   rw[æ];exact Ä1 λx hx=>J30 (u11 hx)
  have e2:(c00 j).map (c60 (j + 1) ∘ λx=>x++[j])=(c00 j).map (c60 j):=Ä1 λx _=>U90;rw[e1,e2];exact List.perm_append_comm.trans (((B80 j)).append ((B80 j).map _))
theorem B90:∀ {j:Nat}{lot:List Nat},lot∈c00 j->c60 j (c60 j lot)=lot
 |0,lot,h=>by
  have:lot=[]:=by simpa [c00] using h
  subst this;rfl
 |j + 1,lot,h=>by
  rcases À2.mp (show lot∈c00 j++(c00 j).map (·++[j]) from h) with h | h
  ·rw[J30 (u11 h),U90,B90 h]
  ·obtain⟨x,hx,rfl⟩:=Ð.mp h;have n:j ∉ c60 j x:=λq=>by
    have:=(Ä7.mp q).1;rw[mem_range] at this;omega
   rw[U90,J30 n,B90 hx]
theorem E41(j:Nat)(f:List Nat->Int):u00 (c00 j) (λl=>f (c60 j l))=u00 (c00 j) f:=by
 rw[← E01 (f:=f)];exact B60 (B80 j)
def tl:Sm->Sm
 |.seq _ r=>r|s=>s
structure Bs(n:Nat)(c:Int × Int):Prop where
 t:c.1.natAbs<=2 ^ n
 b0:0 < c.2
 b:c.2.natAbs<=2 ^ n
theorem u21{n m:Nat}{i j:Int}(hi:i.natAbs<=2 ^ n)(hj:j.natAbs<=2 ^ m):(i * j).natAbs<=2 ^ (n + m):=by
 rw[natAbs_mul,Nat.pow_add];exact Nat.mul_le_mul hi hj
theorem u31(h0:0 < b):(J80 t b).1.natAbs<=t.natAbs/\(J80 t b).2.natAbs<=b.natAbs:=by
 obtain⟨e1,e2⟩:=U70 (t:=t) h0;have g0:=t11 (t:=t) h0;generalize J80 t b=v at *
 generalize hg:gcd t b=g at *
 have g1:1<=g:=by omega
 constructor
 ·rw[e1,natAbs_mul,Int.natAbs_natCast];exact Þ4 _ g1
 ·rw[e2,natAbs_mul,Int.natAbs_natCast];exact Þ4 _ g1
theorem u41{n K:Nat}(h:n < K):c80 (.int n) K=true:=by
 show(decide (0<=(n:Int))&&decide ((n:Int) < (K:Int)))=true;rw[decide_eq_true ∅,decide_eq_true ∅];rfl
structure Rt(v:Int × Int)(t b:Int):Prop where
 b0:0 < v.2
 one:gcd v.1 v.2=1
 eq:v.1 * b=t * v.2
theorem Rt.low{t b:Int}(hb:0 < b):Rt (J80 t b) t b:=⟨t21 hb,U21 hb,by rw[u01 hb,Int.mul_comm]⟩
theorem Rt.conv{v:Int × Int}{t b t' b':Int}(h:Rt v t b)(hb:0 < b)(e:t * b'=t' * b):Rt v t' b':=by
 refine⟨h.b0,h.one,Í1 (a:=b) ∅ ?_⟩
 have:=h.eq
 calc v.1 * b' * b=(v.1 * b) * b':=by grind
  _=(t * b') * v.2:=by rw[this];grind
  _=t' * v.2 * b:=by rw[e];grind
theorem Rt.eqv{v w:Int × Int}{t b:Int}(hv:Rt v t b)(hw:Rt w t b)(hb:0 < b):v=w:=by
 have e:v.1 * w.2=w.1 * v.2:=by
  have h1:=hv.eq;have h2:=hw.eq;refine Í1 (a:=b) ∅ ?_
  calc v.1 * w.2 * b=(v.1 * b) * w.2:=by grind
   _=(t * w.2) * v.2:=by rw[h1];grind
   _=w.1 * v.2 * b:=by rw[← h2];grind
 obtain⟨a,b'⟩:=f31 hv.b0 hw.b0 hv.one hw.one e;exact Prod.ext a b'
theorem Rt.add{v w:Int × Int}{t b t' b':Int}(hv:Rt v t b)(hw:Rt w t' b'):Rt (J80 (v.1 * w.2 + w.1 * v.2) (v.2 * w.2)) (t * b' + t' * b) (b * b'):=by
 have y:=mul_pos hv.b0 hw.b0;refine(Rt.low y).conv y ?_;have h1:=hv.eq;have h2:=hw.eq
 calc (v.1 * w.2 + w.1 * v.2) * (b * b')=(v.1 * b) * (w.2 * b') + (w.1 * b') * (v.2 * b):=by grind
  _=(t * b' + t' * b) * (v.2 * w.2):=by rw[h1,h2];grind
theorem Rt.mul{v w:Int × Int}{t b t' b':Int}(hv:Rt v t b)(hw:Rt w t' b'):Rt (J80 (v.1 * w.1) (v.2 * w.2)) (t * t') (b * b'):=by
 have y:=mul_pos hv.b0 hw.b0;refine(Rt.low y).conv y ?_;have h1:=hv.eq;have h2:=hw.eq
 calc v.1 * w.1 * (b * b')=(v.1 * b) * (w.1 * b'):=by grind
  _=t * t' * (v.2 * w.2):=by rw[h1,h2];grind
theorem IsC.rt{c:Int × Int}(h:IsC c):Rt c c.1 c.2:=⟨by have:=h.1;omega,h.2.2.2.2,rfl⟩
theorem Bs.up{n m:Nat}{c:Int × Int}(h:Bs n c)(hm:n<=m):Bs m c :=
 have e:=Ò1 (n:=2) (-0) hm
 ⟨Ô h.t e,h.b0,Ô h.b e⟩
theorem Bs.low{n:Nat}{t b:Int}(h0:0 < b)(ht:t.natAbs<=2 ^ n)(hb:b.natAbs<=2 ^ n):Bs n (J80 t b) :=
 ⟨Ô (u31 h0).1 ht,t21 h0,Ô (u31 h0).2 hb⟩
theorem Bs.mul{n:Nat}{c d:Int × Int}(hc:Bs n c)(hd:Bs n d):Bs (n + n) (J80 (c.1 * d.1) (c.2 * d.2)):=.low (mul_pos hc.b0 hd.b0) (u21 hc.t hd.t) (u21 hc.b hd.b)
section
variable {m:Int}{ps cs:List (Int × Int)}{pl:List Nat}
theorem V00{j n:Nat}{lot:List Nat}(h:n∈c60 j lot):n < j:=ù.mp (Ä7.mp h).1
theorem J40(k:Nat)(h8:ps.length<=8)(lot:List Nat)(z:Z):c20 T (k + 3) w30 [.d (J00 m ps),.d (b70 lot)] z=some (.ok (.d (b70 (c60 ps.length lot))) z):=by
 refine W.ok (p20 (ps:=2) (ns:=2) (b:=n10) rfl rfl (-0) ?_)
 refine(a20 (o:=itD .rng1 [.int ((ps.map pr).length:Nat)]) (B40 (n:=(ps.map pr).length) (by rw[È];omega)) ?_ :)
 rw[È];refine ip (by rw[È,Ô3];exact g80 ∅) (r61 (λx=>match x with | .int i=>!lot.contains i.toNat | _=>false) id (λx hx=>?_) ?_)
 ·obtain⟨n,hn,rfl⟩:=Ð.mp hx;refine(a20 (o:=(e01 (b30 n) (lot.map b30)).map (!·)) (a:=!lot.contains n) (by rw[J20,Ñ6];rfl) ?_ :)
  exact⟨rfl,rfl,λ_=>⟨rfl,rfl⟩⟩
 ·rw[Ó0,É1];refine sd ?_;rw[È,← Æ3];rfl
theorem u51(k:Nat)(g:d40 m ps)(hp:i70 m pl)(lot:List Nat)(z:Z):c20 T (k + 5) Z70 [.d (J00 m ps),.d (b70 lot),.d (.tup (pl.map b30))] z=some (.ok (.d (.bl (!e30 ps m.toNat pl (c60 ps.length lot)))) z):=by
 refine W.ok (p20 (ps:=3) (ns:=3) (b:=I70) rfl rfl (-0) (Wo (J40 (k + 1) g.len lot z) (Wo (l50 k g hp (Row.t _) (λn hn=>V00 hn) z) ?_)))
 exact sd rfl
abbrev i80(m:Int)(ps:List (Int × Int))(pl:List Nat):List (List Nat):=(x30 ps.length).filter λl=>!e30 ps m.toNat pl (c60 ps.length l)
theorem u61(k:Nat)(g:d40 m ps)(hp:i70 m pl)(z:Z):c20 T (k + 9) s01 [.d (J00 m ps),.d (.tup (pl.map b30))] z=some (.ok (.fr ((i80 m ps pl).map b70)) z):=by
 have h8:=g.len;have h6:=hp.len g.m6;refine W.ok (p20 (ps:=2) (ns:=2) (b:=s11) rfl rfl (-0) (Wo (j20 k z g.web) (Wo (i00 (k + 2) (t:=.tup (ps.map pr)) z hp.pls (decide_eq_true (by rw[È];omega))) (Wo (B50 (k + 5) (m:=m) (ts:=ps.map pr) (by rw[È];exact h8) z) ?_))))
 rw[È];refine ip (by rw[È];exact g80 (Ô (y50 h8) (-0))) (r61 (λx=>!e30 ps m.toNat pl (c60 ps.length (r20 x))) id (λx hx=>?_) ?_)
 ·obtain⟨l,hl,rfl⟩:=Ð.mp hx;refine Wo (u51 (k + 3) g hp l z) ⟨?_,rfl,λ_=>⟨rfl,rfl⟩⟩;rw[e60]
 ·refine sd ?_;rw[Ó0,É1];have:(x30 ps.length).filter ((λx=>!e30 ps m.toNat pl (c60 ps.length (r20 x))) ∘ b70)=i80 m ps pl:=Ð5 λl _=>by show(!e30 ps m.toNat pl (c60 ps.length (r20 (b70 l))))=_;rw[e60]
  rw[this]
theorem U71(g:d40 m ps)(f:List Nat->Int):u00 (i80 m ps pl) (λl=>f (c60 ps.length l))=u00 (c00 ps.length) λl=>if e30 ps m.toNat pl l then 0 else f l:=by
 unfold i80;rw[B70,B60 (k40 g.len),← E41 ps.length λl=>if e30 ps m.toNat pl l then 0 else f l];refine v90 λx _=>?_;cases e30 ps m.toNat pl (c60 ps.length x) <;> rfl
end
theorem n40:∀ {j:Nat}{lot:List Nat},lot∈c00 j->lot.Pairwise (· < ·)
 |0,lot,h=>by
  have:lot=[]:=by simpa [c00] using h
  subst this;exact .nil
 |j + 1,lot,h=>by
  rcases À2.mp (show lot∈c00 j++(c00 j).map (·++[j]) from h) with h | h
  ·exact n40 h
  ·obtain⟨x,hx,rfl⟩:=Ð.mp h;rw[List.pairwise_append];refine⟨n40 hx,Ý9 _ _,λa ha b hb=>?_⟩;rw[Ë0] at hb;subst hb;exact i20 hx a ha
theorem E51:∀ {K:Nat}{lot:List Nat},lot.Pairwise (· < ·)->(∀ n∈lot,n < K)->lot.length<=K:=λ{K lot} h1 h2=>by
 have:=(List.Nodup.length_le_of_subset (h1.imp λh=>Û h) (λn hn=>ù.mpr (h2 n hn):lot ⊆ í K))
 rwa [ð] at this
theorem J50:∀ ns:List Int,j40 (ns.map D.int)=some ns
 |[]=>rfl
 |n::r=>by
  show(j40 (r.map D.int)).map (n::·)=_;rw[J50 r];rfl
theorem E61{ns:List Int}(h:ns.length < 1000):O41 [.lst (ns.map D.int)]=some (.fr (m31 ns)):=by
 show(match j40 (ns.map D.int) with | some ns=>if ns.length < 1000 then some (S.fr (m31 ns)) else none | none=>none)=_
 rw[J50];exact if_pos h
section
variable {m:Int}{ps cs:List (Int × Int)}{pl lot:List Nat}
theorem w90(k:Nat)(h8:ps.length<=8)(h1:lot.Pairwise (· < ·))(h2:∀ n∈lot,n < ps.length)(z:Z):c20 T (k + 7) q40 [.d (J00 m ps),.d (b70 lot)] z=some (.ok (.d .non) z):=by
 have hl:=E51 h1 h2;have hb:(lot.map b30).all (λx=>c80 x ((ps.map pr).length:Nat))=true:=by
  rw[Á5];intro x hx;obtain⟨n,hn,rfl⟩:=Ð.mp hx;exact u41 (by rw[È];exact h2 n hn)
 refine W.ok (p20 (ps:=2) (ns:=2) (b:=q60) rfl rfl (-0) ?_)
 have e:c20 T (k + 6) Z60 [.d (J00 m ps),.d (b70 lot)] z=some (.ok (.d (.bl true)) z):=by
  refine W.ok (p20 (ps:=2) (ns:=2) (b:=I60) rfl rfl (-0) (Wo (w80 k ((ps.map pr).length:Nat) (x:=b70 lot) (decide_eq_true (by rw[È];omega)) z) (sd ?_)))
  show S.d (.bl ((lot.map b30).all (λx=>c80 x ((ps.map pr).length:Nat))&&f71 (lot.map b30)))=_;rw[hb,t31 h1];rfl
 exact Wo e (sd rfl)
theorem P60(k:Nat)(g:d40 m ps)(h1:lot.Pairwise (· < ·))(h2:∀ n∈lot,n < ps.length)(z:Z):c20 T (k + 9) B10 [.d (J00 m ps),.d (b70 lot)] z=some (.ok (.fr (m31 (e20 ps m.toNat lot))) z):=by
 have h8:=g.len;refine W.ok (p20 (ps:=2) (ns:=5) (b:=q70) rfl rfl (-0) (Wo (j20 k z g.web) (Wo (w90 (k + 1) h8 h1 h2 z) ?_)))
 refine ip (B:=False) (c:=2 < 5/\3 < 5/\4 < 5) (-0) (Wo (B30 (k + 5) g (Row.t lot) h2 z) ?_)
 refine(a20 (o:=O41 [.lst ((e20 ps m.toNat lot).map D.int)]) (E61 (by rw[t40];have:=g.m6;omega)) ?_ :)
 exact sd rfl
end
open L2 (D d61)
def x40(ks:List Int)(m:Int):List Int:=if m∈ks then ks else ks++[m]
theorem a61:∀ (gs:List (Int × List Int)) (m p:Int),(d61 gs m p).map (·.1)=x40 (gs.map (·.1)) m
 |[],_,_=>rfl
 |g::r,m,p=>by
  unfold d61 x40;by_cases h:g.1=m
  ·rw[if_pos h,Ã5,if_pos (by rw[← h];exact Ë)];rfl
  ·rw[if_neg h,Ã5,a61 r m p];unfold x40;rw[Ã5];by_cases q:m∈r.map (·.1)
   ·rw[if_pos q,if_pos (Í _ q)]
   ·rw[if_neg q,if_neg (λz=>(å.mp z).elim (λz=>h z.symm) q)];rfl
theorem a71:∀ (ns:List Int) (gs:List (Int × List Int)) (p:Nat),(m21 gs p ns).map (·.1)=ns.foldl x40 (gs.map (·.1))
 |[],_,_=>rfl
 |m::r,gs,p=>by
  show(m21 (d61 gs m p) (p + 1) r).map (·.1)=r.foldl x40 (x40 (gs.map (·.1)) m);rw[a71 r,a61]
theorem E71(ks:List Int)(m:Int):ks.length<=(x40 ks m).length/\(x40 ks m).length<=ks.length + 1:=by
 unfold x40;split
 ·exact⟨É _,le_succ _⟩
 ·rw[À5];exact⟨le_succ _,É _⟩
theorem a81:∀ (ns ks:List Int),ks.length<=(ns.foldl x40 ks).length/\(ns.foldl x40 ks).length<=ks.length + ns.length
 |[],ks=>⟨É _,É _⟩
 |m::r,ks=>by
  have h:=a81 r (x40 ks m);have k:=E71 ks m;rw[Ê7,ß];omega
theorem a91{a:Int}:∀ ns:List Int,(ns.foldl x40 [a]).length=1↔∀ x∈ns,x=a
 |[]=>⟨λ_ _ h=>(nomatch h),λ_=>rfl⟩
 |m::r=>by
  rw[Ê7];by_cases h:m=a
  ·have e:x40 [a] m=[a]:=by unfold x40;rw[if_pos (by rw[h];exact Ë)]
   rw[e,a91 r];exact⟨λk x hx=>(å.mp hx).elim (λz=>z.trans h) (k x),λk x hx=>k x (Í _ hx)⟩
  ·have e:x40 [a] m=[a,m]:=by unfold x40;rw[if_neg (λq=>h (Á1.mp q))];rfl
   rw[e];have:=(a81 r [a,m]).1;exact⟨λq=>by rw[ß,Þ5] at this;omega,λq=>absurd (q m Ë) h⟩
def b01(ns:List Int):Nat:=(m21 [] 0 ns).length
theorem b11(ns:List Int):b01 ns=(ns.foldl x40 []).length:=by
 have:=congrArg Ù6 (a71 ns [] 0);rw[È] at this;exact this
theorem E81{a:Int}{r:List Int}:b01 (a::r)=1↔∀ x∈r,x=a:=by
 rw[b11];exact a91 r
theorem j92{mk:List Int}{a:Int}:(∀ x∈mk,x=a)↔∀ p < mk.length,mk.getD p 0=a:=by
 constructor
 ·intro h p hp;rw[Ù,Ú hp];exact h _ (Æ0 hp)
 ·intro h x hx;obtain⟨p,hp,rfl⟩:=Ñ5.mp hx;have:=h p hp;rw[Ù,Ú hp] at this;exact this
theorem u71{mk:List Int}(h:0 < mk.length):b01 mk=1↔t51 mk (í mk.length)=true:=by
 cases mk with
 |nil=>cases h
 |cons a r =>
  rw[E81];unfold t51;rw[Á5];have e0:(í (a::r).length).getD 0 0=0:=by rw[ß,List.range_succ_eq_map];rfl
  rw[e0];have k:=j92 (mk:=a::r) (a:=a);constructor
  ·intro q p hp;rw[beq_iff_eq];exact k.mp (λx hx=>(å.mp hx).elim id (q x)) p (ù.mp hp)
  ·intro q x hx;exact k.mpr (λp hp=>eq_of_beq (q p (ù.mpr hp))) x (Í _ hx)
theorem E91(ns:List Int):(m31 ns).length=b01 ns:=by unfold m31 b01;rw[È]
section
variable {m:Int}{ps cs:List (Int × Int)}
theorem k50:∀ ls:List (List Nat),q10 (ls.map b70)=true
 |[]=>rfl
 |l::r=>by
  show(q10 (l.map b30)&&q10 (r.map b70))=true;rw[k50 r,o40 l];rfl
theorem F01{a:List (List Nat)}{f g:List Nat->Int}:u00 a (λx=>f x + g x)=u00 a f + u00 a g:=by
 induction a with
 |nil=>rfl
 |cons x r ih =>
  show f x + g x + u00 r (λx=>f x + g x)=f x + u00 r f + (g x + u00 r g);rw[ih];omega
theorem F11{a:List (List Nat)}(g:List Nat->Bool)(f:List Nat->Int):u00 a (λx=>if g x then f x else 0) + u00 a (λx=>if g x then 0 else f x)=u00 a f:=by
 rw[← F01];refine v90 λx _=>?_;cases g x
 ·exact Int.zero_add _
 ·exact Int.add_zero _
end
section
variable {m:Int}{ps cs:List (Int × Int)}{pl:List Nat}
theorem F21(g:d40 m ps)(l:List Nat):b01 (e20 ps m.toNat l)=0 + 1↔e30 ps m.toNat (í m.toNat) l=true:=by
 have h:=u71 (mk:=e20 ps m.toNat l) (by rw[t40];have:=g.m1;omega)
 rw[t40] at h;exact h
theorem u81{lot:List Nat}(hp:∀ p∈pl,p < m.toNat)(h:e30 ps m.toNat (í m.toNat) lot=true):e30 ps m.toNat pl lot=true:=by
 unfold e30 t51 at *
 rw[Á5] at *
 intro p hpl;have a:=eq_of_beq (h p (ù.mpr (hp p hpl)));cases pl with
 |nil=>cases hpl
 |cons q r =>
  have b:=eq_of_beq (h q (ù.mpr (hp q Ë)));rw[beq_iff_eq];show _=(e20 ps m.toNat lot).getD q 0;rw[a,b]
end
theorem y60:∀ {K:Nat}{l:List Nat},l.Pairwise (· < ·)->(∀ n∈l,n < K)->l∈c00 K
 |0,l,_,h=>by
  cases l with
  |nil=>exact Á1.mpr rfl|cons a r=>exact absurd (h a Ë) (Ò6 _)
 |K + 1,l,hp,h=>by
  show l∈c00 K++(c00 K).map (·++[K]);by_cases hk:K∈l
  ·obtain⟨s,t,rfl⟩:=List.append_of_mem hk;rw[List.pairwise_append] at hp;obtain⟨p1,p2,p3⟩:=hp;have ht:t=[]:=by
    cases t with
    |nil=>rfl
    |cons b r =>
     have h1:=List.rel_of_pairwise_cons p2 Ë;have h2:=h b (è _ (Í _ Ë));omega
   subst ht;refine è _ (Ð.mpr ⟨s,y60 p1 λn hn=>p3 n hn K Ë,rfl⟩)
  ·refine É0 _ (y60 hp λn hn=>?_);have:=h n hn;have:n≠K:=λe=>hk (e ▸ hn);omega
theorem b21{K:Nat}{l:List Nat}(h:l∈c00 K)(i:Nat):l.eraseIdx i∈c00 K :=
 y60 ((n40 h).sublist (Ð7 ..)) λn hn=>i20 h n ((Ð7 ..).mem hn)
theorem u91{K:Nat}{l:List Nat}:c60 K l∈c00 K:=y60 (Í8 _ Ç5) λ_ hn=>V00 hn
def J81(l:List Nat):List (List Nat):=(í l.length).map l.eraseIdx
def c50(ls:List (List Nat)):List (List Nat):=ls.filter λl=>!(J81 l).any λx=>ls.contains x
theorem e70{ls:List (List Nat)}{x:List Nat}(h:x∈c50 ls):x∈ls:=(Ä7.mp h).1
theorem b31{ls:List (List Nat)}{x:List Nat}(h:x∈c50 ls){i:Nat}(hi:i < x.length):x.eraseIdx i ∉ ls:=λq=>by
 have h2:=(Ä7.mp h).2;rw[ú,List.any_eq_false] at h2;exact h2 (x.eraseIdx i) (Ð.mpr ⟨i,ù.mpr hi,rfl⟩) (Ê2.mpr q)
theorem C00{ls:List (List Nat)}:∀ (k:Nat) {l:List Nat},l.length<=k->l∈ls->∃ x∈c50 ls,∀ n∈x,n∈l:=λk=>by
 induction k with
 |zero =>
  intro l hk hl;have:l=[]:=List.eq_nil_of_length_eq_zero ∅
  subst this;exact⟨[],Ä7.mpr ⟨hl,rfl⟩,λn hn=>nomatch hn⟩
 |succ k ih =>
  intro l hk hl;by_cases h:(J81 l).any (λx=>ls.contains x)=true
  ·obtain⟨x,hx,hc⟩:=List.any_eq_true.mp h;obtain⟨i,hi,rfl⟩:=Ð.mp hx;have hi:=ù.mp hi;obtain⟨y,hy,hs⟩:=ih (l:=l.eraseIdx i) (by rw[Ü3 hi];omega) (Ê2.mp hc)
   exact⟨y,hy,λn hn=>(Ð7 ..).mem (hs n hn)⟩
  ·exact⟨l,Ä7.mpr ⟨hl,by rw[Ò7] at h;rw[h];rfl⟩,λn hn=>hn⟩
section
variable {m:Int}{ps cs:List (Int × Int)}{pl:List Nat}
theorem e80(g:d40 m ps){l:List Nat}:l∈b60 m ps pl↔l∈c00 ps.length/\e30 ps m.toNat pl l=true:=by
 rw[mem_filter,(k40 g.len).mem_iff]
theorem w00(g:d40 m ps){l:List Nat}:l∈i80 m ps pl↔l∈c00 ps.length/\e30 ps m.toNat pl (c60 ps.length l)=false:=by
 rw[mem_filter,(k40 g.len).mem_iff,ú]
theorem v01{K n:Nat}{l:List Nat}:n∈c60 K l↔n < K/\n ∉ l:=by
 unfold c60;rw[mem_filter,mem_range,ú,Ñ6,decide_eq_false_iff_not]
theorem E40(g:d40 m ps)(hp:i70 m pl){l c:List Nat}(hl:l∈b60 m ps pl)(hc:c∈i80 m ps pl):∃ n∈l,n∈c:=by
 obtain⟨l1,l2⟩:=(e80 g).mp hl;obtain⟨c1,c2⟩:=(w00 g).mp hc;apply Ø5;intro no;have:=U51 g hp l (c60 ps.length c) (λn hn=>V00 hn) (λn hn=>v01.mpr ⟨i20 l1 n hn,λq=>no ⟨n,hn,q⟩⟩) l2;rw[c2] at this;cases this
theorem f61(g:d40 m ps){c:List Nat}(hc:c∈c50 (i80 m ps pl)){i:Nat}(hi:i < c.length):∃ x∈c50 (b60 m ps pl),∀ n∈x,n ∉ c.eraseIdx i:=by
 have c1:=((w00 g).mp (e70 hc)).1;have no:=b31 hc hi;have e:e30 ps m.toNat pl (c60 ps.length (c.eraseIdx i))=true:=by
  cases h:e30 ps m.toNat pl (c60 ps.length (c.eraseIdx i)) with
  |true=>rfl|false=>exact absurd ((w00 g).mpr ⟨b21 c1 i,h⟩) no
 obtain⟨x,hx,hs⟩:=C00 (ls:=b60 m ps pl) _ (É _) ((e80 g).mpr ⟨u91,e⟩);exact⟨x,hx,λn hn=>(v01.mp (hs n hn)).2⟩
theorem U81(g:d40 m ps){l:List Nat}(hl:l∈b60 m ps pl):c60 ps.length l ∉ i80 m ps pl:=λh=>by
 obtain⟨l1,l2⟩:=(e80 g).mp hl;have:=((w00 g).mp h).2;rw[B90 l1,l2] at this;cases this
theorem len_one:∀ a:List (List Nat),(a.length:Int)=u00 a λ_=>1
 |[]=>rfl
 |x::r=>by
  show((r.length + 1:Nat):Int)=1 + u00 r λ_=>1;rw[← len_one r];omega
theorem J52(g:d40 m ps):((b60 m ps pl).length:Int) + ((i80 m ps pl).length:Int)=2 ^ ps.length:=by
 rw[len_one,len_one,B70,B60 (k40 g.len),U71 g (λ_=>1),F11 (e30 ps m.toNat pl) (λ_=>1),← len_one,t50];exact Int.natCast_pow 2 _
end
theorem F31{ks:List Int}{m x:Int}:x∈x40 ks m↔x∈ks∨x=m:=by
 unfold x40;split
 ·rename_i h;exact⟨.inl,λq=>q.elim id λe=>e ▸ h⟩
 ·rw[mem_append,Ë0]
theorem U91{ks:List Int}{m:Int}(h:ks.Nodup):(x40 ks m).Nodup:=by
 unfold x40;split
 ·exact h
 ·rename_i q;rw[List.nodup_append];exact⟨h,by simp,λa ha b hb e=>by rw[Ë0] at hb;subst hb;subst e;exact q ha⟩
theorem k60{x:Int}:∀ (ns ks:List Int),x∈ns.foldl x40 ks↔x∈ks∨x∈ns
 |[],ks=>by simp
 |m::r,ks=>by
  rw[Ê7,k60 r,F31,Ã4,or_assoc]
theorem y70:∀ (ns:List Int) {ks:List Int},ks.Nodup->(ns.foldl x40 ks).Nodup
 |[],_,h=>h|_::r,_,h=>y70 r (U91 h)
theorem v21(m:Nat):b01 ((í m).map λ(i:Nat)=>(i:Int))=m:=by
 rw[b11];have h1:=y70 ((í m).map λ(i:Nat)=>(i:Int)) (ks:=[]) nodup_nil;have h2:((í m).map λ(i:Nat)=>(i:Int)).Nodup:=Ô0.map _ (λa b h e=>h ∅) List.nodup_range
 have p:=(Ì4 h1 h2).mpr λx=>by rw[k60];simp
 rw[p.length_eq,È,ð]
section
variable {ps:List (Int × Int)}
theorem getD_in{mk:List Int}{i:Nat}(h:i < mk.length):mk.getD i 0∈mk:=by
 rw[Ù,Ú h];exact Æ0 h
theorem step_same{mk:List Int}{n:Nat}(h:mk.getD (tA ps n) 0=mk.getD (tB ps n) 0):i10 ps mk n=mk:=by
 unfold i10;rw[h]
 conv=>rhs;rw[← Ó0 mk]
 refine Ä1 λx _=>?_;show(if x=_ then _ else x)=x;split
 ·rename_i e;exact e.symm
 ·rfl
theorem F41{mk:List Int}{n:Nat}(ha:tA ps n < mk.length)(hb:tB ps n < mk.length)(h:mk.getD (tA ps n) 0≠mk.getD (tB ps n) 0):b01 (i10 ps mk n) + 1=b01 mk:=by
 have ia:=getD_in ha;have ib:=getD_in hb;rw[b11,b11];unfold i10;generalize mk.getD (tA ps n) 0=a at *
 generalize mk.getD (tB ps n) 0=b at *
 have d1:=y70 mk (ks:=[]) nodup_nil;have d2:=y70 (mk.map λx=>if x=b then a else x) (ks:=[]) nodup_nil;have p:=(Ì4 d2 (List.Nodup.erase b d1)).mpr λx=>by
  rw[k60,d1.mem_erase_iff,k60,Ð];constructor
  ·rintro (q | ⟨y,hy,e⟩)
   ·cases q
   ·split at e
    ·subst e;exact⟨h,.inr ia⟩
    ·rename_i hyb;subst e;exact⟨hyb,.inr hy⟩
  ·rintro ⟨q,q2 | q2⟩
   ·cases q2
   ·exact .inr ⟨x,q2,by rw[if_neg q]⟩
 rw[p.length_eq,List.length_erase_of_mem ((k60 _ _).mpr (.inr ib))];have:0 < (mk.foldl x40 []).length:=List.length_pos_of_mem ((k60 _ _).mpr (.inr ib));omega
theorem b41{m:Nat}(hr:∀ n < ps.length,tA ps n < m/\tB ps n < m):∀ (l:List Nat) (mk:List Int),mk.length=m->(∀ n∈l,n < ps.length)->(∀ p n q,l=p++n::q->(p.foldl (i10 ps) mk).getD (tA ps n) 0≠(p.foldl (i10 ps) mk).getD (tB ps n) 0)->b01 (l.foldl (i10 ps) mk) + l.length=b01 mk
 |[],_,_,_,_=>rfl
 |n::r,mk,hm,hl,h=>by
  have hn:=hr n (hl n Ë);have s:=F41 (ps:=ps) (mk:=mk) (n:=n) ∅ ∅ (h [] n r rfl)
  have ih:=b41 hr r (i10 ps mk n) (by rw[y30];exact hm) (λk hk=>hl k (Í _ hk)) λp k q e=>h (n::p) k q (by rw[e];rfl)
  rw[Ê7,ß];omega
end
section
variable {m:Int}{ps:List (Int × Int)}
theorem F51(g:d40 m ps){l:List Nat}(h:l∈c50 (b60 m ps (í m.toNat))):(l.length:Int)=m - 1/\b01 (e20 ps m.toNat l)=1:=by
 have m1:=g.m1;obtain⟨l1,l2⟩:=(e80 g).mp (e70 h);have n1:b01 (e20 ps m.toNat l)=1:=(F21 g l).mpr l2;have f:=b41 (ps:=ps) g.rng l ((í m.toNat).map λ(i:Nat)=>(i:Int)) (by rw[È,ð]) (i20 l1) λp n q e same=>by
  have hi:p.length < l.length:=by rw[e,À5,ß];omega
  refine b31 h hi ((e80 g).mpr ⟨b21 l1 _,?_⟩);have er:l.eraseIdx p.length=p++q:=by rw[e,List.eraseIdx_append_of_length_le (É _),Nat.sub_self];rfl
  rw[er];unfold e30 at l2 ⊢;have em:e20 ps m.toNat (p++q)=e20 ps m.toNat l:=by
   unfold e20;rw[e,List.foldl_append,List.foldl_append,Ê7,step_same same]
  rw[em];exact l2
 rw[v21] at f;have:b01 (e20 ps m.toNat l) + l.length=m.toNat:=f;exact⟨by omega,n1⟩
end
def w72:D->Nat
 |.int i=>i.toNat|_=>0
theorem k02(l:List D)(p:D->Bool):bfD .any [.lst (l.map λx=>D.bl (p x))]=some (.d (.bl (l.any p))):=by
 have:∀ l:List D,(l.map λx=>D.bl (p x)).mapM asB=some (l.map p):=λl=>by
  induction l with
  |nil=>rfl
  |cons x r ih =>
   rw[Ã5,Ó5,ih];rfl
 show((l.map λx=>D.bl (p x)).mapM asB).map _=_;rw[this];show some (S.d (.bl ((l.map p).any id)))=_;rw[List.any_map];rfl
theorem V01{l:List Nat}{i:Nat}(h:i < l.length):cutD (l.map b30) none (some (i:Int))++cutD (l.map b30) (some ((i:Int) + 1)) none=(l.eraseIdx i).map b30:=by
 rw[s91 _ ∅,Â7,show((i:Int) + 1)=((i + 1:Nat):Int) by omega,y20,List.eraseIdx_eq_take_drop_succ,Ä8,List.map_take,List.map_drop]
theorem v31{l:List Nat}{i:Nat}(hl:l.length<=8)(h:i < l.length):M60 .add (.tup (cutD (l.map b30) none (some (i:Int)))) (.tup (cutD (l.map b30) (some ((i:Int) + 1)) none))=some (.d (b70 (l.eraseIdx i))):=by
 have e1:(cutD (l.map b30) none (some (i:Int))).length<=8:=by rw[s91 _ ∅,Ã7,È];omega
 have e2:(cutD (l.map b30) (some ((i:Int) + 1)) none).length<=8:=by rw[show((i:Int) + 1)=((i + 1:Nat):Int) by omega,y20,Ë2,È];omega
 rw[j72 ∅,V01 h];rfl
theorem C10(k:Nat){l:List Nat}(hl:l.length<=8)(z:Z):c20 T (k + 3) p30 [.d (b70 l)] z=some (.ok (.fr ((J81 l).map b70)) z):=by
 refine W.ok (p20 (ps:=1) (ns:=1) (b:=j70) rfl rfl (-0) ?_)
 refine(a20 (o:=itD .rng1 [.int ((l.map b30).length:Nat)]) (B40 (n:=(l.map b30).length) (by rw[È];omega)) ?_ :)
 rw[show(l.map b30).length=l.length from È _];refine ip (by rw[È,Ô3];exact g80 ∅) (Z30 (λx=>b70 (l.eraseIdx (w72 x))) (λx hx=>?_) ?_)
 ·obtain⟨i,hi,rfl⟩:=Ð.mp hx;have hi:i < l.length:=by rw[← Æ3] at hi;exact ù.mp hi
  refine(a20 (v31 hl hi) ?_ :);exact⟨rfl,rfl⟩
 ·refine sd ?_;rw[æ,← Æ3];unfold J81;rw[æ];rfl
def l90(l:List Nat):List Int:=l.map λ(n:Nat)=>(n:Int)
theorem t60(l:List Nat):V61 (b70 l)=some (l90 l):=by
 show j40 (l.map b30)=_;have e:l.map b30=(l90 l).map D.int:=by unfold l90;rw[æ];rfl
 rw[e,J50]
theorem P70:∀ ls:List (List Nat),m11 (ls.map b70)=some (ls.map l90)
 |[]=>rfl
 |l::r=>by
  show(V61 (b70 l)).bind (λk=>(m11 (r.map b70)).map (k::·))=_;rw[t60,P70 r];rfl
theorem F61{a b:List Nat}(h:l90 a=l90 b):a=b:=by
 have:∀ l:List Nat,(l90 l).map Int.toNat=l:=λl=>by
  unfold l90;rw[æ];exact Ó0 l
 rw[← this a,h,this b]
theorem J60(ls:List (List Nat))(l:List Nat):(ls.map l90).contains (l90 l)=ls.contains l:=by
 rw[Å0,Ã9,Ã9,Ð];exact⟨λ⟨x,hx,e⟩=>F61 e ▸ hx,λh=>⟨l,h,rfl⟩⟩
theorem C20(k:Nat){ls:List (List Nat)}(hn:ls.length<=256)(h8:∀ l∈ls,l.length<=8)(z:Z):c20 T (k + 4) v00 [.d (.lst (ls.map b70))] z=some (.ok (.fr ((c50 ls).map b70)) z):=by
 refine W.ok (p20 (ps:=1) (ns:=2) (b:=v70) rfl rfl (-0) ?_)
 refine(a20 (o:=O31 (.lst (ls.map b70))) (a:=ls.map l90) (P70 ls) ?_ :);refine ip (by rw[È];exact g80 ∅) (r61 (λx=>!(J81 (r20 x)).any λy=>ls.contains y) id (λx hx=>?_) ?_)
 ·obtain⟨l,hl,rfl⟩:=Ð.mp hx;have hl8:=h8 l hl;refine Wo (C10 k hl8 z) ?_;refine ip (by rw[È];unfold J81;rw[È,ð];exact g80 ∅) (Z30 (λy=>.bl (ls.contains (r20 y))) (λy hy=>?_) ?_)
  ·obtain⟨x,_,rfl⟩:=Ð.mp hy;refine(a20 (t60 x) ?_ :);refine⟨?_,rfl⟩;rw[J60,e60];cases ls.contains x <;> rfl
  ·refine(a20 (k02 _ λy=>ls.contains (r20 y)) ?_ :);refine⟨?_,rfl,λ_=>⟨rfl,rfl⟩⟩;rw[List.any_map,e60]
   congr 4
   funext y
   show ls.contains (r20 (b70 y))=_;rw[e60]
 ·refine sd ?_;rw[Ó0,É1];have:ls.filter ((λx=>!(J81 (r20 x)).any λy=>ls.contains y) ∘ b70)=c50 ls:=Ð5 λl _=>by show(!(J81 (r20 (b70 l))).any λy=>ls.contains y)=_;rw[e60]
  rw[this]
section
variable {m:Int}{ps:List (Int × Int)}{pl lot:List Nat}
theorem E50(g:d40 m ps):(b60 m ps pl).length<=256:=Ô (Ð6 _ _) (y50 g.len)
theorem V11(g:d40 m ps):(i80 m ps pl).length<=256:=Ô (Ð6 _ _) (y50 g.len)
theorem P80(g:d40 m ps){l:List Nat}(h:l∈c00 ps.length):l.length<=8:=Ô (y40 h) g.len
theorem t70(k:Nat)(g:d40 m ps)(hp:i70 m pl)(z:Z):c20 T (k + 10) m90 [.d (J00 m ps),.d (.tup (pl.map b30))] z=some (.ok (.fr ((c50 (b60 m ps pl)).map b70)) z) :=
 W.ok (p20 (ps:=2) (ns:=2) (b:=n20) rfl rfl (-0) (Wo (j30 k g hp z) (Wo (C20 (k + 5) (E50 g) (λl hl=>P80 g ((e80 g).mp hl).1) z) (sd rfl))))
theorem J70(k:Nat)(g:d40 m ps)(hp:i70 m pl)(z:Z):c20 T (k + 10) w40 [.d (J00 m ps),.d (.tup (pl.map b30))] z=some (.ok (.fr ((c50 (i80 m ps pl)).map b70)) z) :=
 W.ok (p20 (ps:=2) (ns:=2) (b:=n30) rfl rfl (-0) (Wo (u61 k g hp z) (Wo (C20 (k + 5) (V11 g) (λl hl=>P80 g ((w00 g).mp hl).1) z) (sd rfl))))
theorem F71(k:Nat)(g:d40 m ps)(hp:i70 m pl)(hl:lot∈c00 ps.length)(z:Z):c20 T (k + 9) r91 [.d (J00 m ps),.d (b70 lot),.d (.tup (pl.map b30))] z=some (.ok (.d (.bl (e30 ps m.toNat pl lot))) z):=by
 have h6:=hp.len g.m6;exact W.ok (p20 (ps:=3) (ns:=3) (b:=U30) rfl rfl (-0) (Wo (j20 k z g.web) (Wo (w90 (k + 1) g.len (n40 hl) (i20 hl) z) (Wo (i00 (k + 2) (t:=.tup (ps.map pr)) z hp.pls (decide_eq_true (by rw[È];omega))) (Wo (l50 (k + 4) g hp (Row.t lot) (i20 hl) z) (sd rfl))))))
end
theorem v41(k:Nat){a b:List Nat}(ha:a.length<=8)(z:Z):c20 T (k + 3) t30 [.d (b70 a),.d (b70 b)] z=some (.ok (.d (.bl (a.all λn=>decide (n∈b)))) z):=by
 refine W.ok (p20 (ps:=2) (ns:=2) (b:=l40) rfl rfl (-0) ?_)
 refine ip (by rw[È];exact g80 ∅) (r61 (λx=>!decide (w72 x∈b)) (λx=>x) (λx hx=>?_) ?_)
 ·obtain⟨n,_,rfl⟩:=Ð.mp hx;refine(a20 (o:=(e01 (b30 n) (b.map b30)).map (!·)) (a:=!decide (n∈b)) (by rw[J20];rfl) ?_ :)
  exact⟨rfl,rfl,λ_=>⟨rfl,rfl⟩⟩
 ·rw[map_id',É1];refine(a20 (t71 (J10 _)) ?_ :);refine sb ?_;rw[Å0,List.isEmpty_map,Ç9,Ã6,Á5];refine forall_congr' λn=>forall_congr' λ_=>?_;show ¬ (!decide (n∈b))=true↔_;cases decide (n∈b) <;> simp
theorem V10(k:Nat){a b:List Nat}(ha:a.length<=8)(z:Z):c20 T (k + 3) l20 [.d (b70 a),.d (b70 b)] z=some (.ok (.d (.bl (a.any λn=>decide (n∈b)))) z):=by
 refine W.ok (p20 (ps:=2) (ns:=2) (b:=r00) rfl rfl (-0) ?_)
 refine ip (by rw[È];exact g80 ∅) (r61 (λx=>decide (w72 x∈b)) (λx=>x) (λx hx=>?_) ?_)
 ·obtain⟨n,_,rfl⟩:=Ð.mp hx;refine(a20 (J20 (n:=n) (l:=b)) ?_ :);exact⟨rfl,rfl,λ_=>⟨rfl,rfl⟩⟩
 ·rw[map_id',É1];refine(a20 (ne_nil (J10 _)) ?_ :);refine sb ?_;rw[Å0,List.isEmpty_map,ú,← Ò7,Ç9,Ã6,Ë3];constructor
  ·intro h;apply Ø5;intro q;exact h λn hn hd=>q ⟨n,hn,hd⟩
  ·rintro ⟨n,hn,hd⟩ h;exact h n hn hd
theorem V20:∀ ls:List (List Nat),f60 (ls.map b70)=true/\i60 (ls.map b70)<=1
 |[]=>⟨rfl,by decide⟩
 |l::r=>by
  obtain⟨h1,h2⟩:=V20 r;have e:l.map b30=(l.map λ(n:Nat)=>(n:Int)).map D.int:=by rw[æ];rfl
  obtain⟨g1,g2⟩:=I90 (l.map λ(n:Nat)=>(n:Int));rw[← e] at g1 g2;refine⟨?_,?_⟩
  ·show(f60 (l.map b30)&&f60 (r.map b70))=true;rw[h1,g1];rfl
  ·show Nat.max (i60 (l.map b30) + 1) (i60 (r.map b70))<=1;rw[g2];exact Nat.max_le.mpr ⟨É _,h2⟩
theorem F81(ls:List (List Nat)):okD (.lst (ls.map b70))=true:=by
 obtain⟨h1,h2⟩:=V20 ls;unfold okD;rw[Á,decide_eq_true_eq];refine⟨h1,?_⟩;show i60 (ls.map b70) + 1<=40;omega
theorem b51:∀ ls:List (List Nat),O21 ((ls.map b70).map λx=>.tup [x,.bl true])=some (ls.map l90)
 |[]=>rfl
 |l::r=>by
  show(j40 (l.map b30)).bind (λk=>(O21 ((r.map b70).map λx=>.tup [x,.bl true])).map (k::·))=_;rw[show j40 (l.map b30)=some (l90 l) from t60 l,b51 r];rfl
section
variable {m:Int}{ps:List (Int × Int)}{pl:List Nat}
abbrev lcE(m:Int)(ps:List (Int × Int))(pl:List Nat)(o8 o9 o10:Option S):Env:=[some (.d (J00 m ps)),some (.d (.tup (pl.map b30))),some (.d (.lst ((b60 m ps pl).map b70))),some (.d (.lst ((i80 m ps pl).map b70))),some (.d (.lst ((c50 (b60 m ps pl)).map b70))),some (.d (.lst ((c50 (i80 m ps pl)).map b70))),some (.ks ((i80 m ps pl).map l90)),some (.ks ((b60 m ps pl).map l90)),o8,o9,o10]
abbrev bRc:Nat->Sm:=rec j10 λ_ r=>tl r
theorem C30{ls:List (List Nat)}:(c50 ls).length<=ls.length:=Ð6 _ _
theorem J62(g:d40 m ps){l:List Nat}(h:l∈c50 (b60 m ps pl)):l.length<=8:=P80 g ((e80 g).mp (e70 h)).1
theorem J72(g:d40 m ps){l:List Nat}(h:l∈c50 (i80 m ps pl)):l.length<=8:=P80 g ((w00 g).mp (e70 h)).1
theorem V21(k:Nat)(g:d40 m ps){z:Z}{o8 o9 o10:Option S}{Q:O->Z->Prop}{E:Nat->Z->Prop}{tp:Bool}(q:Q (.rt (.d (.bl true))) z):WS (S10 T (k + 10 + 2)) tp (bRc 7) (lcE m ps pl o8 o9 o10) z Q E:=by
 have hn:(c50 (b60 m ps pl)).length<=256:=Ô C30 (E50 g);refine ip (by rw[È];exact g80 ∅) (r61 (λ_=>false) (λx=>x) (λx hx=>?_) ?_)
 ·obtain⟨l,hl,rfl⟩:=Ð.mp hx;refine(a20 (t60 l) ?_ :);refine⟨?_,rfl,λh=>nomatch h⟩;rw[J60,Ê2.mpr (e70 hl)];rfl
 ·rw[Ã6.mpr λx _=>Ò];exact q
def mtP(c:List Nat)(x:D):Bool:=c.any λn=>decide (n∈r20 x)
theorem C40(c l:List Nat):mtP c (b70 l)=c.any λn=>decide (n∈l):=by unfold mtP;rw[e60]
theorem b61{c:List Nat}{ls:List (List Nat)}(h:∀ l∈ls,∃ n∈c,n∈l):(ls.map b70).all (mtP c)=true:=by
 rw[Á5];intro x hx;obtain⟨l,hl,rfl⟩:=Ð.mp hx;rw[C40,Ë3];obtain⟨n,h1,h2⟩:=h l hl;exact⟨n,h1,decide_eq_true h2⟩
theorem F91{c l:List Nat}{ls:List (List Nat)}(hl:l∈ls)(h:∀ n∈l,n ∉ c):(ls.map b70).all (mtP c)=false:=by
 rw[← Ò7,Á5];intro q;have:=q (b70 l) (Ð.mpr ⟨l,hl,rfl⟩);rw[C40,Ë3] at this;obtain⟨n,h1,h2⟩:=this;exact h n (of_decide_eq_true h2) h1
theorem V31(k:Nat)(g:d40 m ps)(hp:i70 m pl){z:Z}{o8 o9 o10:Option S}{Q:O->Z->Prop}{E:Nat->Z->Prop}{tp:Bool}(q:Q (.rt (.d (.bl true))) z):WS (S10 T (k + 10 + 2)) tp (bRc 6) (lcE m ps pl o8 o9 o10) z Q E:=by
 have hn:(c50 (b60 m ps pl)).length<=256:=Ô C30 (E50 g);refine U10 (λxs ρ z2=>z2=z/\∃ (rest:List (List Nat)) (o8 o9 o10:Option S),(∀ l∈rest,l∈c50 (i80 m ps pl))/\xs=rest.map b70/\ρ=lcE m ps pl o8 o9 o10) _ ⟨rfl,c50 (i80 m ps pl),o8,o9,o10,λ_ h=>h,rfl,(itE (by show(q10 _&&true)=true;rw[k50];rfl)).trans rfl⟩ ?_ ?_
 ·rintro x r ρ z2 ⟨rfl,rest,o8,o9,o10,hr,e,rfl⟩;cases rest with
  |nil=>cases e
  |cons c rest =>
   cases e;have hc:=hr c Ë;have c8:=J72 g hc;have hr':∀ l∈rest,l∈c50 (i80 m ps pl):=λl h=>hr l (Í _ h);refine ip (by rw[È];exact g80 ∅) (Z30 (λx=>.bl (mtP c x)) (λx hx=>?_) ?_)
   ·obtain⟨l,hl,rfl⟩:=Ð.mp hx;refine Wo (V10 (k + 9) c8 z2) ⟨?_,rfl⟩;rw[C40]
   ·refine(a20 (w70 _ (mtP c)) ?_ :);rw[b61 λl hl=>by obtain⟨n,h1,h2⟩:=E40 g hp (e70 hl) (e70 hc);exact⟨n,h2,h1⟩]
    refine(a20 (o:=itD .rng1 [.int ((c.map b30).length:Nat)]) (B40 (n:=(c.map b30).length) (by rw[È];omega)) ?_ :)
    refine U10 (λxs ρ z3=>z3=z2/\∃ (j r:Nat) (o9 o10:Option S),j + r=c.length/\xs=(Ã0 j r).map b30/\ρ=lcE m ps pl (some (.d (b70 c))) o9 o10) _ ⟨rfl,0,c.length,_,_,zero_add _,by rw[È],rfl⟩ ?_ ?_
    ·rintro x r ρ z3 ⟨rfl,j,q',o9,o10,hj,e,rfl⟩;cases q' with
     |zero=>cases e
     |succ q' =>
      rw[Ê3] at e;cases e;have hi:j < c.length:=by omega
      refine ip (by rw[È];exact g80 ∅) (Z30 (λx=>.bl (mtP (c.eraseIdx j) x)) (λx hx=>?_) ?_)
      ·obtain⟨l,hl,rfl⟩:=Ð.mp hx;refine(a20 (v31 c8 hi) ?_ :);refine Wo (V10 (k + 9) (by rw[Ü3 hi];omega) z3) ⟨?_,rfl⟩
       rw[C40]
      ·refine(a20 (w70 _ (mtP (c.eraseIdx j))) ?_ :);obtain⟨x,hx,hno⟩:=f61 g hc hi;rw[F91 hx hno];exact⟨rfl,j + 1,q',_,_,by omega,rfl,rfl⟩
    ·rintro ρ z3 ⟨rfl,j,q',o9,o10,hj,e,rfl⟩;exact⟨rfl,rest,_,_,_,hr',rfl,rfl⟩
 ·rintro ρ z2 ⟨rfl,rest,o8,o9,o10,hr,e,rfl⟩;cases rest with
  |cons _ _=>cases e
  |nil=>exact(V21 k g q :)
def wiP(l:List Nat)(x:D):Bool:=(r20 x).all λn=>decide (n∈l)
theorem V30{l y:List Nat}{ls:List (List Nat)}(hy:y∈ls)(h:∀ n∈y,n∈l):((ls.map b70).filter (wiP l)).isEmpty=false:=by
 cases e:(ls.map b70).filter (wiP l) with
 |cons _ _=>rfl
 |nil =>
  have:=Ã6.mp e (b70 y) (Ð.mpr ⟨y,hy,rfl⟩);exact absurd (by unfold wiP;rw[e60,Á5];exact λn hn=>decide_eq_true (h n hn)) this
theorem v51(ls:List (List Nat))(f:D->Bool):(ls.map b70).filter f=(ls.filter λl=>f (b70 l)).map b70:=É1 ..
theorem V41(k:Nat)(g:d40 m ps)(hp:i70 m pl){z:Z}{o8 o9 o10:Option S}{Q:O->Z->Prop}{E:Nat->Z->Prop}{tp:Bool}(q:Q (.rt (.d (.bl true))) z):WS (S10 T (k + 10 + 2)) tp (bRc 5) (lcE m ps pl o8 o9 o10) z Q E:=by
 have h8:=g.len;have hn:(c50 (b60 m ps pl)).length<=256:=Ô C30 (E50 g);have hn2:(c50 (i80 m ps pl)).length<=256:=Ô C30 (V11 g);refine U10 (λxs ρ z2=>z2=z/\∃ (rest:List (List Nat)) (o8 o9 o10:Option S),(∀ l∈rest,l∈b60 m ps pl)/\xs=rest.map b70/\ρ=lcE m ps pl o8 o9 o10) _ ⟨rfl,b60 m ps pl,o8,o9,o10,λ_ h=>h,rfl,(itE (by show(q10 _&&true)=true;rw[k50];rfl)).trans rfl⟩ ?_ ?_
 ·rintro x r ρ z2 ⟨rfl,rest,o8,o9,o10,hr,e,rfl⟩;cases rest with
  |nil=>cases e
  |cons l rest =>
   cases e;have hl:=hr l Ë;obtain⟨l1,l2⟩:=(e80 g).mp hl;have l8:=P80 g l1;have hr':∀ l∈rest,l∈b60 m ps pl:=λl h=>hr l (Í _ h);have ch:=F71 (k + 3) g hp l1 z2;rw[l2] at ch;refine(D21 (.d (b70 (c60 ps.length l))) (lcE m ps pl (some (.d (b70 l))) (some (.d (b70 (c60 ps.length l)))) o10) ?_ ?_ ?_ :)
   ·refine(a20 (o:=itD .rng1 [.int ((ps.map pr).length:Nat)]) (B40 (n:=(ps.map pr).length) (by rw[È];omega)) ?_ :)
    rw[show(ps.map pr).length=ps.length from È _];refine ip (by rw[È,Ô3];exact g80 ∅) (r61 (λx=>match x with | .int i=>!l.contains i.toNat | _=>false) id (λx hx=>?_) ?_)
    ·obtain⟨n,hn,rfl⟩:=Ð.mp hx;refine(a20 (o:=(e01 (b30 n) (l.map b30)).map (!·)) (a:=!l.contains n) (by rw[J20,Ñ6];rfl) ?_ :)
     exact⟨rfl,rfl,λ_=>⟨rfl,rfl⟩⟩
    ·have e1:List.map id (List.filter (λx=>match x with | .int i=>!l.contains i.toNat | _=>false) ((Ã0 0 ps.length).map b30))=(c60 ps.length l).map b30:=by
      rw[Ó0,É1,← Æ3];rfl
     rw[e1];exact⟨rfl,rfl⟩
   ·rw[r71 (show M80 (.d (b70 (c60 ps.length l)))=true from o40 _)];rfl
   refine(a20 (t60 (c60 ps.length l)) ?_ :);refine ie (b:=((i80 m ps pl).map l90).contains (l90 (c60 ps.length l)) == true) (by
    rw[J60,← Ò7,beq_iff_eq,Ã9];exact U81 g hl) ?_
   refine Wo ch ?_;refine ip (by rw[È];exact g80 ∅) (r61 (wiP l) (λx=>x) (λx hx=>?_) ?_)
   ·obtain⟨y,hy,rfl⟩:=Ð.mp hx;refine Wo (v41 (k + 9) (J62 g hy) z2) ⟨?_,rfl,λ_=>⟨rfl,rfl⟩⟩;unfold wiP;rw[e60]
   ·rw[map_id'];obtain⟨y,hy,hs⟩:=C00 (ls:=b60 m ps pl) _ (É _) hl;have hw:=V30 hy hs;refine(a20 (t71 (l:=((c50 (b60 m ps pl)).map b70).filter (wiP l)) (by rw[v51];exact F81 _)) ?_ :)
    refine ie (b:=(((c50 (b60 m ps pl)).map b70).filter (wiP l)).isEmpty) hw ?_;refine ip (by rw[È];exact g80 ∅) (Z30 (λx=>.bl (mtP l x)) (λx hx=>?_) ?_)
    ·obtain⟨c,hc,rfl⟩:=Ð.mp hx;refine Wo (V10 (k + 9) l8 z2) ⟨?_,rfl⟩;rw[C40]
    ·refine(a20 (w70 _ (mtP l)) ?_ :);rw[b61 λc hc=>E40 g hp hl (e70 hc)];exact⟨rfl,rest,_,_,_,hr',rfl,rfl⟩
 ·rintro ρ z2 ⟨rfl,rest,o8,o9,o10,hr,e,rfl⟩;cases rest with
  |cons _ _=>cases e
  |nil=>exact(V31 k g hp q :)
theorem P90(ls:List (List Nat)):bfD .dict [.lst ((ls.map b70).map λx=>.tup [x,.bl true])]=some (.ks (ls.map l90)):=by
 show(O21 _).map S.ks=_;rw[b51];rfl
theorem v61(k:Nat)(g:d40 m ps)(hp:i70 m pl)(z:Z):c20 T (k + 13) w60 [.d (J00 m ps),.d (.tup (pl.map b30))] z=some (.ok (.d (.bl true)) z):=by
 have h8:=g.len;have hg:=E50 (pl:=pl) g;have hc:=V11 (pl:=pl) g;have hL:=J52 (pl:=pl) g;refine W.ok (p20 (k:=k + 10) (ps:=2) (ns:=11) (b:=j10) rfl rfl (-0) ?_)
 refine Wo (j30 (k + 3) g hp z) (Wo (u61 (k + 3) g hp z) ?_);refine Wo (t70 (k + 2) g hp z) (Wo (J70 (k + 2) g hp z) ?_);refine ip (by rw[È];exact g80 ∅) (Z30 (λx=>.tup [x,.bl true]) (λx hx=>⟨rfl,rfl⟩) ?_)
 refine(a20 (P90 (i80 m ps pl)) ?_ :);refine ip (by rw[È];exact g80 ∅) (Z30 (λx=>.tup [x,.bl true]) (λx hx=>⟨rfl,rfl⟩) ?_)
 refine(a20 (P90 (b60 m ps pl)) ?_ :);refine(a20 (o:=M60 .shl (.int 1) (.int ((ps.map pr).length:Nat))) (a:=.d (.int (2 ^ ps.length))) (by
  show(if 0<=(((ps.map pr).length:Nat):Int)/\(((ps.map pr).length:Nat):Int)<=1000/\(1:Int).natAbs < 2 ^ 64 then some (S.d (.int (1 * 2 ^ (((ps.map pr).length:Nat):Int).toNat))) else none)=_;rw[if_pos ⟨by omega,by rw[È];omega,by decide⟩,Int.one_mul,Â7,È]) ?_ :)
 refine ie (b:=!((((b60 m ps pl).map b70).length:Int) + (((i80 m ps pl).map b70).length:Int) == 2 ^ ps.length)) (by rw[È,È,hL,beq_self_eq_true];rfl) ?_
 refine(V41 k g hp (o8:=none) (o9:=none) (o10:=none) ?_ :);exact sd rfl
theorem b71:∀ l:List Nat,O11 (l.map b30) (l.map b30)=true
 |[]=>rfl
 |x::r=>by
  show((x:Int) == (x:Int)&&O11 (r.map b30) (r.map b30))=true;rw[b71 r,beq_self_eq_true];rfl
theorem G01{l:List Nat}{ls:List (List Nat)}(h:l∈ls):(e01 (b70 l) (ls.map b70)).map (!·)=some false:=by
 obtain⟨h1,h2⟩:=V20 ls;have o2:H61 (ls.map b70)=true:=by unfold H61;rw[h1,decide_eq_true ∅];rfl
 have e:l.map b30=(l.map λ(n:Nat)=>(n:Int)).map D.int:=by rw[æ];rfl
 have o1:okD (b70 l)=true:=by
  have:=J10 l;exact this
 have hm:memD (b70 l) (ls.map b70)=true:=by
  unfold memD;rw[Ë3];exact⟨b70 l,Ð.mpr ⟨l,h,rfl⟩,b71 l⟩
 unfold e01;rw[o1,o2,hm];rfl
abbrev lwE(ns:List Int)(j:Nat)(m:Int)(ps:List (Int × Int))(pl:List Nat)(o6 o7:Option S):Env:=[some (.d (.lst (ns.map D.int))),some (.d (.int j)),some .z,some (.d (J00 m ps)),some (.d (.tup (pl.map b30))),some (.d (.tup ((í m.toNat).map b30))),o6,o7]
abbrev bIn(n:Nat):Sm:=match D31 with
 |.seq (.fr _ _ _ b) _=>rec b (λ_ r=>tl r) n|_=>.nil
theorem v71(g:d40 m ps):i70 m (í m.toNat):=by
 have m1:=g.m1;refine⟨λh=>?_,Ç5,λp hp=>by have:=ù.mp hp;omega⟩
 have:=congrArg Ù6 h;rw[ð] at this;simp at this;omega
theorem w82(k:Nat)(g:d40 m ps)(hp:i70 m pl){ns:List Int}{j:Nat}{z:Z}{o6 o7:Option S}{Q:O->Z->Prop}{E:Nat->Z->Prop}
  (q:∀ o6 o7:Option S,Q (.nx (lwE ns j m ps pl o6 o7)) z):WS (S10 T (k + 37 + 2)) true (bIn 3) (lwE ns j m ps pl o6 o7) z Q E:=by
 have m1:=g.m1;have he:=v71 g;have hn:=E50 (pl:=í m.toNat) g;refine Wo (v61 (k + 26) g hp z) ?_;refine(D21 (.fr ((c50 (b60 m ps (í m.toNat))).map b70)) (lwE ns j m ps pl (some (.fr ((c50 (b60 m ps (í m.toNat))).map b70))) o7) ?_ ?_ ?_ :)
 ·exact Wo (t70 (k + 29) g he z) ⟨rfl,rfl⟩
 ·rw[r71 (show M80 (.fr ((c50 (b60 m ps (í m.toNat))).map b70))=true from k50 _)];rfl
 refine ip (by rw[È];exact g80 (Ô C30 ∅)) (r61 (λ_=>false) (λx=>x) (λx hx=>?_) ?_)
 ·obtain⟨l,hl,rfl⟩:=Ð.mp hx;obtain⟨t1,t2⟩:=F51 g hl;have l1:=((e80 g).mp (e70 hl)).1;refine ie (b:=!(((l.map b30).length:Int) == m - 1)) (by rw[È,t1,beq_self_eq_true];rfl) ?_
  refine Wo (P60 (k + 30) g (n40 l1) (i20 l1) z) ?_;refine⟨?_,rfl,λh=>nomatch h⟩;show S.d (.bl (!((((m31 (e20 ps m.toNat l)).length:Nat):Int) == 1)))=_;rw[E91,t2];rfl
 ·rw[Ã6.mpr λx _=>Ò];refine(D21 (.fr ((b60 m ps pl).map b70)) (lwE ns j m ps pl (some (.fr ((c50 (b60 m ps (í m.toNat))).map b70))) (some (.fr ((b60 m ps pl).map b70)))) ?_ ?_ ?_ :)
  ·exact Wo (j30 (k + 30) g hp z) ⟨rfl,rfl⟩
  ·rw[r71 (show M80 (.fr ((b60 m ps pl).map b70))=true from k50 _)];rfl
  refine Wo (j30 (k + 30) g he z) ?_;refine ip (by rw[È];exact g80 ∅) (r61 (λ_=>false) (λx=>x) (λx hx=>?_) ?_)
  ·obtain⟨l,hl,rfl⟩:=Ð.mp hx;obtain⟨l1,l2⟩:=(e80 g).mp hl;have hm:l∈b60 m ps pl:=(e80 g).mpr ⟨l1,u81 (λp hpp=>by have:=hp.lt p hpp;omega) l2⟩
   refine(a20 (G01 hm) ?_ :);exact⟨rfl,rfl,λh=>nomatch h⟩
  ·rw[Ã6.mpr λx _=>Ò];exact q _ _
end
abbrev l42(L:Int):Int:=if (if (3:Int) < L then 3 else L) > 1 then(if (3:Int) < L then 3 else L) else 1
theorem k12(k:Nat)(ns:List Int):c20 T (k + 40) i52 [.d (.lst (ns.map D.int))] none=some (.ok (.d (.bl true)) none):=by
 refine W.ok (p20 (k:=k + 37) (ps:=1) (ns:=8) (b:=D31) rfl rfl (-0) ?_)
 have hN:0<=l42 ((ns.map D.int).length:Int)/\l42 ((ns.map D.int).length:Int) < 100000:=by
  unfold l42;split <;> (try split) <;> omega
 refine(a20 (O90 (m:=l42 ((ns.map D.int).length:Int)) hN.1 hN.2) ?_ :);refine U10 (λxs ρ z=>(∀ x∈xs,∃ j:Nat,x=.int j)/\∃ o1 o2 o3 o4 o5 o6 o7:Option S,ρ=[some (.d (.lst (ns.map D.int))),o1,o2,o3,o4,o5,o6,o7]) _ ⟨λx hx=>?_,_,_,_,_,_,_,_,rfl⟩ ?_ ?_
 ·obtain⟨i,_,rfl⟩:=Ð.mp hx;exact⟨i,rfl⟩
 ·rintro x r ρ z1 ⟨hx,o1,o2,o3,o4,o5,o6,o7,rfl⟩;obtain⟨j,rfl⟩:=hx x Ë;obtain⟨sn,sb,hz1,hst⟩:=D51 (k + 35) ns j z1;refine Wo hst ?_;refine(t01 (k + 34) hz1 (-0) (-0)).imp λs z3 ⟨hz3,m,ps,e,g,h7⟩=>?_
  subst e;refine(P30 (k + 35) (t:=.tup (ps.map pr)) g.m1 g.m6 hz3).imp λs z5 ⟨hz5,pl,e,hp⟩=>?_;subst e;have m1:=g.m1;have m6:=g.m6;refine(a20 (o:=lrD [.int m]) (O90 ∅ ∅) ?_ :)
  rw[t41];refine(w82 k g hp λo6 o7=>?_ :);exact⟨λx hx'=>hx x (Í _ hx'),_,_,_,_,_,_,_,rfl⟩
 ·rintro ρ z1 ⟨_,o1,o2,o3,o4,o5,o6,o7,rfl⟩;exact⟨rfl,rfl⟩
theorem pure:∀ ns:List Int,ns.length<=63->c20 (tabOf rows) 40 i52 [.d (.lst (ns.map D.int))] none=some (.ok (.d (.bl true)) none):=λns _=>by
 rw[J32];exact k12 0 ns
open PySem L2 Q
theorem ok:rows.all (W11 (C60 rows) nums cn)=true:=by decide +kernel
theorem bd:m70 rows:=⟨λ_ _ _ _ _ _ us hl=>by obtain⟨_,rfl⟩:=us1 hl;rfl,
 λ_ _ _ _ _ _ us hl=>by obtain⟨_,_,rfl⟩:=us2 hl;rfl,
 λ_ _ _ _ _ _ us hl=>by obtain⟨_,_,rfl⟩:=us2 hl;rfl,
 λ_ _ _ _ _ _ us hl=>by obtain⟨_,_,rfl⟩:=us2 hl;rfl,
 λ_ _ _ _ _ _ us hl=>by obtain⟨_,rfl⟩:=us1 hl;rfl,
 λ_ _ _ _ _ _ us hl=>by obtain⟨_,rfl⟩:=us1 hl;rfl,
 λ_ _ _ _ _ _ us hl=>by obtain⟨_,_,rfl⟩:=us2 hl;rfl,
 λ_ _ _ _ _ _ us hl=>by obtain⟨_,_,rfl⟩:=us2 hl;rfl,
 λ_ _ _ _ _ _ us hl=>by obtain⟨_,rfl⟩:=us1 hl;rfl,
 λ_ _ _ _ _ _ us hl=>by obtain⟨_,_,rfl⟩:=us2 hl;rfl,
 λ_ _ _ _ _ _ us hl=>by obtain⟨_,_,rfl⟩:=us2 hl;rfl,
 λ_ _ _ _ _ _ us hl=>by obtain⟨_,_,rfl⟩:=us2 hl;rfl,
 λ_ _ _ _ _ _ us hl=>by obtain⟨_,_,rfl⟩:=us2 hl;rfl,
 λ_ _ _ _ _ _ us hl=>by obtain⟨_,_,_,rfl⟩:=us3 hl;rfl,
 λ_ _ _ _ _ _ us hl=>by obtain⟨_,_,_,rfl⟩:=us3 hl;rfl,
 λ_ _ _ _ _ _ us hl=>by obtain⟨_,rfl⟩:=us1 hl;rfl,
 λ_ _ _ _ _ _ us hl=>by obtain⟨_,_,rfl⟩:=us2 hl;rfl,
 λ_ _ _ _ _ _ us hl=>by obtain⟨_,rfl⟩:=us1 hl;rfl,
 λ_ _ _ _ _ _ us hl=>by obtain⟨_,rfl⟩:=us1 hl;rfl,
 λ_ _ _ _ _ _ us hl=>by obtain⟨_,_,_,rfl⟩:=us3 hl;rfl,
 λ_ _ _ _ _ _ us hl=>by obtain⟨_,_,rfl⟩:=us2 hl;rfl,
 λ_ _ _ _ _ _ us hl=>by obtain⟨_,_,rfl⟩:=us2 hl;rfl,
 λ_ _ _ _ _ _ us hl=>by obtain⟨_,_,rfl⟩:=us2 hl;rfl,
 λ_ _ _ _ _ _ us hl=>by obtain⟨_,_,rfl⟩:=us2 hl;rfl,
 λ_ _ _ _ _ _ us hl=>by obtain⟨_,_,rfl⟩:=us2 hl;rfl,
 λ_ _ _ _ _ _ us hl=>by obtain⟨_,_,rfl⟩:=us2 hl;rfl,
 λ_ _ _ _ _ _ us hl=>by obtain⟨_,_,rfl⟩:=us2 hl;rfl,
 λ_ _ _ _ _ _ us hl=>by obtain⟨_,_,rfl⟩:=us2 hl;rfl,
 λ_ _ _ _ _ _ us hl=>by obtain⟨_,_,rfl⟩:=us2 hl;rfl,
 λ_ _ _ _ _ _ us hl=>by obtain⟨_,_,rfl⟩:=us2 hl;rfl,
 λ_ _ _ _ _ _ us hl=>by obtain⟨_,_,rfl⟩:=us2 hl;rfl,
 λ_ _ _ _ _ _ us hl=>by obtain⟨_,_,rfl⟩:=us2 hl;rfl,
 λ_ _ _ _ _ _ us hl=>by obtain⟨_,rfl⟩:=us1 hl;rfl,trivial⟩
def asks:m00:=O70 rows nums cn
def prg:Program:=é
def vq:Program:=view prg [42]
def loose:List Str:=prg.boundNames.filter λx=>!(x == ("law":Str))
def runL(w:õ)(os:OsState):=(B00 PySem.W.through (PySem.W.stepOk 11 (some (.ref 6))) (PySem.W.stepT (denote treeTable) prg w) 20000 (T11 w os) (PySem.W.topStub prg)).map (λs =>
   (PySem.W.staticsOk (Ì6 prg.main.body) (PySem.W.boot_heap w.params) s.abs.heap&&PySem.W.namesBound prg s.abs.heap&&PySem.W.gensDone s.abs&&PySem.W.laidKept (PySem.W.boot_heap w.params) s.abs.heap,
    PySem.W.openSeen vq loose (Ì6 prg.main.body) (λ_=>true) true s.abs,asks.obs s.abs))
def runR(w:õ):=some (true,PySem.W.openGood vq loose,asks.due w)
def _root_.PySem.W.Fast.tw15571414291387125548:PySem.Program:=é
theorem _root_.PySem.W.Fast.te15571414291387125548:é=PySem.W.Fast.tw15571414291387125548:=rfl
theorem twins:(λ(_:runL=runL/\runR=runR)=>true) ⟨rfl,rfl⟩=true:=by k_qdec
theorem run_eq:∀ (w:õ) (os:OsState),PySem.W.Fast.tw14075725262101462980 w os=PySem.W.Fast.tw18139657281711212703 w:=λw os=>by kernel_rfl
theorem left:PySem.W.LeftO é vq loose (λ_=>true) asks.hook.obs asks.hook.val 20000:=T21 (by kernel_rfl) rfl (λ_=>by kernel_rfl) λw os =>
 (congrFun (congrFun PySem.W.Fast.te14075725262101462980 w) os).trans ((run_eq w os).trans (congrFun PySem.W.Fast.te18139657281711212703 w).symm)
end K3
open PySem PySem.W PyProof.Rows
set_option maxRecDepth 100000 in
set_option maxHeartbeats 0 in
theorem PySem.Challenge.cw_tiechances_k06_whole_good_lots_and_cuts_holds : PySem.Challenge.rw_tiechances_k06_whole_good_lots_and_cuts.Holds := by
 w_on;o_law
 refine holds_open (q:=K3.vq) (loose:=K3.loose) (Xt:=λ_=>true) (XP:=λ_ _=>True) (Yf:=K3.asks.hook.obs) (Ya:=K3.asks.hook.val) (YP:=K3.asks.hook.says) K3.left K3.asks.hook.of K3.asks.hook.keeps (λ_ _=>trivial) (λ_ _ _ _ _=>trivial) (by rfl) (by rfl) (by rfl) (λs _=>recFacts_of rfl) rfl (by first | assumption | decide +kernel) (by decide +kernel) ⟨rfl,rfl,rfl,rfl,rfl,by decide +kernel⟩ ?hw ?hc
 case hw=>w_witness2
 case hc=>exact Q.D11 (l:=PySem.Challenge.rw_tiechances_k06_whole_good_lots_and_cuts) (n:=63) (k:=40) (x:="_law_script") rfl (-0) rfl ⟨rfl,by decide,by decide⟩ (Q.T71 (k:=37) (iL:=32) K3.ok K3.bd rfl rfl rfl K3.pure)