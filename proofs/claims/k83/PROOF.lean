import PyProof.Rows.All
import Wide.All
import OpenK.AllK
import Wide.FinOn
import Lean
import PyProof.EqAt
import PyProof.EqKinds
import PyProof.TupleCall
import KE.KSortTup
import OpenK.KRaise
import OpenK.KOwn
import PyProof.ExcBaseAll.ValueError
import KE.KIsAll
import PyProof.ExcAttrAll.ValueError
import PyProof.NsDelKeeps
import PyProof.RulesAs
import KE.KTryMore
import KE.KLam
import KE.KNestM
import OpenK.KEqL
import PyProof.Rows.EqDataRows
import PyProof.NeKinds
import PyProof.FactsAll.dict
import PyProof.FactsAll.subtypes
import PyProof.ListRange
import PyProof.TupleOfGen
import PyProof.TupleOfSeq
import KE.KTupSum
import PyProof.Rows.SumAny
import PySem.Challenge.RW_tiechances_k83_whole_polynomials
local macro_rules
|`(∅)=>`(by omega)
|`(-0)=>`(by decide)
local macro_rules
|`(tactic|omega)=>`(tactic|lia)
open PySem renaming wpAny_bind→À,Value→Ã,Shared→Å,wpAny_pure→Æ,Addr→Ç,Expr→Í,wpAny→Ï,model→Ô,Program→à,wpAny_newObj_type→å,bootBuiltins→ë,mainGlobals→ì,Heap→í,compareOp→ñ,World→ö,starEach→ù,Around→þ,swappedStores→À1,wpAny_field→À2,Scope→À9,wpAny_truthy_bool→Á0,wpAny_callSpecial?_slot→Á5,sizeLine_eq→Á6,binaryOp→Â8,mem_of_lookup→Â9,Paired→Ã6,wpAny_call_entry→Ã7,wpAny_mono→Ã8,IsPair→Ã9,cLine→Å0,Builtin→Å2,wpAny_seqItems→Å3,Stmt→Å6,NameKind→Å7,Env→Å9,wpAny_setField_rec→Æ0,call_meets→Æ3,wpAny_passesOwn→Æ5,wpAny_holding→Æ6,cellsFrom→Æ7,assignEach→Ç6,FuncData→È5,wpAny_pyIter_tuple→È8,wpAny_typeOf→É5,foldedSetIterable→É6,wpAny_rule→Ê7,foldedForSure→Ë1,sliceBounds→Ë2,bindName→Ë3,Operator→Ë6,importedModules→Ì1,codeAny_builtin→Ì2,wpAny_bindName→Í5,IsZip→Î1,getItem→Ï3,wpAny_standAt→Ï7,assignInOrder→Ï8,swapsWith→Ñ0,codeAny_mono→Ñ9,backTo→Ò0,IsRange→Ò1,wpAny_updateSeq_pair→Ô0,constantsAlone→Ô4,assign→Ô5,IsPart→Ô9,wpAny_onRaise→Ö1,wpAny_Call_Name_kw→Ö4,typeIs_int→Ö5,builtinsNs→Ö6,wpAny_sequenceKey→Ù1,codeAny→Ù2,callerA→Ù3,noFill_tuple_add→Ú6,seqIndex_of→Û4,wpAny_execs_nil→Û7,letOwnedTupleGo→Û8
open Bool renaming and_eq_true→Á,false_ne_true→Ñ,not_eq_true'→ô,or_eq_true→Ã3,eq_iff_iff→Ä0,true_and→Ä6,false_eq_true→È1,false_and→Ì0,not_eq_false'→Î3,and_true→Ó4
open PySem.W renaming Frag→Â,kas_item→é,kas_desc→Á7,kas_place→Â7,kas_rev→Æ1,kas_asc→Æ2,boot_heap→Ç7,excIn→Ì3,kas_descPart→Í2,kas_sort→Í8,kia_tup→Ó0,kia_one→Ó1,codeHdIn→Ô6,tabObj→Ö8,kas_count→Ú7,cellsFrom_some→Ú8
open PySem.Heap renaming get?_push_of_some→Ä,get?_push_size→Î,lt_size→Ý,size_push→Ç4,IsTuple→Ï6,get?_update_other→Ü3,SameBut→Ü4,get?_update_self→Ü8
open Nat renaming le_refl→È,le_trans→Ò,lt_of_lt_of_le→Ù,ne_of_lt→ã,pow_le_pow_right→À0,lt_irrefl→À6,le_of_lt→Ä1,zero_le→Ä3,le_add_right→Ç5,add_sub_cancel→É0,lt_succ_of_lt→Ê0,lt_of_le_of_lt→Ì5,mul_comm→Ð0,ne_of_gt→Ò3,not_lt→Ô7,pow_succ→Õ6,le_of_eq→Õ7,succ_le_succ→Ø0,min_eq_right→Ø1,lt_succ_self→Ø2,not_lt_zero→Ù6,min_eq_left→Ù7,add_le_add→Û0,le_mul_of_pos_left→Ü5
open Option renaming map_eq_some_iff→É,bind_eq_some_iff→Ê,map→É2,map_eq_some_iff→Ñ1,ne_none_iff_exists'→Ø8,isSome_iff_exists→Ú3
open List renaming length_map→Ë,mem_cons_of_mem→Ì,mem_cons_self→Ð,size_toArray→Ó,replicate→Õ,length_cons→Ø,getElem?_map→Û,getD_eq_getElem?_getD→Ü,getElem?_eq_some_iff→Þ,getElem?_set_ne→ß,mem_map→â,mem_append_right→ä,getElem?_set_self→æ,range→î,all_eq_true→ï,length_range→ð,mem_of_getElem?→ò,map_map→ó,lookup_cons→õ,getElem?_eq_getElem→ø,mem_cons→ü,filterMap_cons→À5,mem_singleton→Á2,range'→Á4,replicate_succ→Á8,length_nil→Á9,mem_append→Â0,not_mem_nil→Â1,length_set→Â6,length_append→Ã1,getElem?_append_right→Ã2,map_congr_left→Ã4,all_cons→Ã5,mem_cons→Ä4,range'_succ→Ä9,length_take→Å4,all_eq_true→Å5,flatten_cons→Å8,mem_range→Æ8,drop_eq_getElem_cons→Ç2,zip_cons_cons→Ç8,map_cons→Ç9,getElem?_replicate→È4,take_of_length_le→È6,forIn_cons→É8,lookup→É9,getElem_mem→Ê3,map_append→Ê4,range_eq_range'→Ê9,mem_append_left→Ë0,pairwise_cons→Ë9,nil_append→Ì8,length_reverse→Ì9,getElem?_append_left→Í0,length_drop→Í7,getElem_map→Í9,lookup_append→Î4,getElem_range→Î5,isEmpty_iff→Î6,forIn_nil→Ï4,pairwise_lt_range→Ï5,nodup_cons→Ð1,mem_filter→Ð2,reverse_cons→Ð6,length_replicate→Ð7,length_filter_le→Ð8,getElem?_append→Ñ6,getElem?_range→Ò8,Pairwise→Ó3,mem_filterMap→Ó6,getElem?_take→Ó7,getElem?_drop→Ó8,zip_nil_left→Õ3,append_assoc→Õ4,length→Ø3,eq_of_mem_replicate→Û5,getElem?_cons_zero→Ü0,drop_eq_nil_of_le→Ü2,getElem?_eq_none→Ü6,contains_iff_mem→Ü7
open ForInStep renaming yield→Ö,done→Ú
open PySem.Value renaming none→á,type→Â4,ref→Ä8,bool→Ë4,notImplemented→Ñ2
open PySem.NameKind renaming free→ç,cell→û
open PyProof.Rows renaming slot_tuple_getitem→è,callWith_type1→ÿ,SortSt→Á3,seqObj→Â5,assignInOrder_cons→Æ4,IntsAre→È7,IsTup→Ê5,SortKind→Ë5,listItems_at→Í1,AllBare→Ò2,slicePart_none→Ô1,oneType'→Ô2,envOfC→Ô3,pendingOf→Õ2,listUpdate_at→Ö2,args_tuple_getitem→Ö7,assignInOrder_nil→Ù4,get?_update_seq→Û9
open PySem.Challenge renaming pw_tiechances_k83_whole_polynomials→ê
open Array renaming getElem?_toList→ú,extract→Ä5,getElem?_eq_getElem→Ç1,length_toList→È0,getD_eq_getD_getElem?→Ê8,toArray_toList→Ì7,map_extract→Í6,size→Ó5,map_append→Ö0
open Option.some renaming inj→ý,injEq→Ñ4
open PySem.Obj renaming mapSeq→À3
open Ne renaming symm→À4
open Int renaming toNat_natCast→À7,pow_succ→Á1,eq_of_mul_eq_mul_right→Æ9,mul_pos→È3,pow_zero→Ê2,mul_comm→Ë7,le_of_lt→Ë8,emod_eq_of_lt→Í4,eq_ofNat_of_zero_le→Ï1,zero_mul→Ï2,mul_zero→Ð3,le_trans→Ð4,natCast_pow→Ò4,emod_nonneg→Ò5,one_pow→Ò9,lt_of_le_of_lt→Õ0,zero_add→Õ8,mul_le_mul_of_nonneg_left→Ø9,mul_lt_mul_of_pos_right→Ú4,mul_le_mul→Û1,lt_of_mul_lt_mul_right→Û2,le_of_dvd→Ü1
open PySem.Str renaming ofString→À8
open PySem.Builtin.Range renaming rangeSize→Â2,small→Î2
open PySem.AutoSeq1 renaming wpAny_loadPart'→Â3,wpAny_loadPart'→Ã0,idx_int→Ó9,sub_tuple_tuple→Ù0
open False renaming elim→Ä2
open PySem.Builtin.Tuple renaming tupleExact→Ä7
open PyProof.Rows.KeyOrd renaming kle_refl→Å1,kle_of_klt→Ì6,kle_trans→Õ5
open PySem.Builtin.Slice renaming slicePlaces→Ç0,sliceAdjust→Ê1,sliceApplied→Ð5
open PySem.F renaming slot_tuple_iterator_next→Ç3,args_tuple_add_2→Ì4,entry_tuple_add→Í3,slot_tuple_add→Î0,slot_tuple_lt→Î9,called_tuple→Ï9,slot_zip_next→Ñ7,slot_int_rmul→Ñ8,args_tuple_mul_2→Õ9,excBase_ValueError→Ö9,entry_tuple_mul→Ø6,slot_tuple_mul→Ù8,plain_tuple_new→Ú0,plain_list_iadd→Ú1,args_tuple_lt_2→Ú2,entry_tuple_lt→Ú9,args_tuple_iterator_next_1→Û3,entry_tuple_iterator_next→Û6
open True renaming intro→È2
open PySem.Heap.SameBut renaming update→È9
open PyProof.Rows.SortSt renaming mk'→É1
open PySem.Builtin.List renaming listExtendWith→É3,listTooLong→Ê6
open Array.Perm renaming refl→É4
open PySem.Builtin.SmallTypes renaming ownedTupleIsFree→É7
open PySem.W.KasT renaming ret→Î7
open PySem.Heap.IsSliceOf renaming new→Î8
open PySem.PyData renaming depthAll→Ï0,eqv→Ø7
open PySem.Around renaming under_plainId→Ð9
open PySem.W.Looks renaming ld→Ñ3,of_pure→Ö3,here→Ù5
open Prod.mk renaming injEq→Ñ5
open Sum renaming inr→Ò6,inl→Ò7
open PySem.SeqAt renaming EqAt→Ó2
open List.eraseDupsBy renaming loop→Ô8
open PySem.Calls renaming spliced_nil→Õ1,Name_function_global→Ù9,evalArgs_plain→Ü9
open List.Perm renaming eq_of_pairwise→Ø4
open List.Pairwise renaming filter→Ø5
open PySem.Builtin.Int renaming intBits→Ú5
local macro_rules
|`(command|def $i:declId $s:optDeclSig $v)=>`(noncomputable def $i:declId $s:optDeclSig $v)
|`(command|abbrev $i:declId $s:optDeclSig $v)=>`(noncomputable abbrev $i:declId $s:optDeclSig $v)
open PySem.W (methodObj hideAll hideAll_get of_hideAll fnOf kia_one kitx_none kitx_bool kitx_int kitx_str kitx_tuple kitx_list kitx_dict kitAny kia_tup mg_of view)
open PySem.Heap (lt_size size_push)
open List (range filterMap_cons mem_cons_self mem_cons_of_mem mem_append_left set_comm mem_append_right append_nil of_mem_zip replicate length_take mem_of_getElem? length_append length_map size_toArray length_drop map_nil map_cons length_set reverse_cons replicate_succ flatten_cons foldl lookup_cons forIn_cons forIn_nil lookup_append nil_append toArray mem_cons not_mem_nil ext_getElem range' length_nil length_range zip_cons_cons length_cons length_reverse map_id mapM_cons map_congr_left getElem_mem all_map all_eq_true all_cons range_eq_range' getElem_range drop_length head? filter_cons range_succ getElem_map)
open Array (length_toList toList size_map map_extract push extract setIfInBounds toArray_toList)
open Nat (ne_of_gt zero_le le_add_right ble beq lt_succ_of_lt pow_le_pow_right add_sub_cancel sub_self rec)
open Int (mul_one toNat_natCast emod_nonneg emod_lt_of_pos gcd natCast_pow natAbs_mul mul_pos pow_add one_mul zero_mul pow_zero add_zero one_pow)
open PyProof.Rows (lt_int)
open PySem.Builtin.Slice (sliceAdjust slicePlaces sliceApplied sliceFields)
open PySem.Builtin.Tuple (tupleItemsOf tupleExact tupleCompareSizes tupleTooMany tupleIsExact)
open Bool (and_eq_true false_eq_true not_eq_true' or_eq_true not_eq_false')
open Option (getD_none map_some map_eq_some_iff)
open PySem.Builtin.SmallTypes (nextOf ownedTupleIsFree ownedTupleHandOut)
set_option bootstrap.genMatcherCode false
set_option compiler.extract_closed false
set_option genInjectivity false
set_option genSizeOf false
set_option autoImplicit true
set_option relaxedAutoImplicit true
set_option Elab.async false
set_option linter.all false
set_option maxRecDepth 100000
namespace L2
open PySem PySem.Spec PyProof.Rows
abbrev Key:=Sum Int Str
def U41:Key->Ã->Bool
 |.inl k,v=>Ã.isInt k v|.inr x,v=>Ã.isStrOf x v
def A12(w:ö):Key->Int
 |.inl k=>hashInt k|.inr x=>hashStr w x
theorem c10:∀ {k:Key}{v:Ã},U41 k v=true->(∃ i t,k=Ò7 i/\v=Ã.int i t)∨(∃ x t,k=Ò6 x/\v=Ã.str x t)
 |.inl i,v,h=>by
  obtain⟨t,e⟩:=Ã.isInt_shape (k:=i) (v:=v) h;exact .inl ⟨i,t,rfl,e⟩
 |.inr x,v,h=>by
  obtain⟨t,e⟩:=Ã.isStrOf_shape (x:=x) (v:=v) h;exact .inr ⟨x,t,rfl,e⟩
theorem U51(a b:Int):decide ((Ò7 a:Key)=Ò7 b)=(a == b):=by
 by_cases e:a=b
 ·subst e;simp
 ·have h:¬ (Ò7 a:Key)=Ò7 b:=λq=>e (Ò7.inj q);rw[decide_eq_false h];exact(beq_eq_false_iff_ne.mpr e).symm
theorem U61(a b:Str):decide ((Ò6 a:Key)=Ò6 b)=decide (a=b):=by
 by_cases e:a=b
 ·subst e;simp
 ·have h:¬ (Ò6 a:Key)=Ò6 b:=λq=>e (Ò6.inj q);rw[decide_eq_false h,decide_eq_false e]
theorem U71(a:Int)(b:Str):decide ((Ò7 a:Key)=Ò6 b)=false:=decide_eq_false (λq=>nomatch q)
theorem U81(a:Str)(b:Int):decide ((Ò6 a:Key)=Ò7 b)=false:=decide_eq_false (λq=>nomatch q)
def f61(prog:à)(w:ö):PySem.KeyKind prog w Key where
 is:=U41
 hash:=A12 w
 inj:=λv a b ha hb=>by
  rcases c10 ha with ⟨i,t,rfl,rfl⟩ | ⟨x,t,rfl,rfl⟩
  ·rcases c10 hb with ⟨j,u,rfl,e⟩ | ⟨y,u,rfl,e⟩
   ·injection e with e1 _;rw[e1]
   ·exact nomatch e
  ·rcases c10 hb with ⟨j,u,rfl,e⟩ | ⟨y,u,rfl,e⟩
   ·exact nomatch e
   ·injection e with e1 _;rw[e1]
 byValue:=λk v h=>by
  rcases c10 h with ⟨i,t,rfl,rfl⟩ | ⟨x,t,rfl,rfl⟩ <;> rfl
 pyHash:=λhv h=>by
  rcases c10 hv with ⟨i,t,rfl,rfl⟩ | ⟨x,t,rfl,rfl⟩
  ·exact wpAny_pyHash_int h
  ·exact wpAny_pyHash_str h
 eqBool:=λhu hv h=>by
  rcases c10 hu with ⟨i,t,rfl,rfl⟩ | ⟨x,t,rfl,rfl⟩
  ·rcases c10 hv with ⟨j,u,rfl,rfl⟩ | ⟨y,u,rfl,rfl⟩
   ·rw[U51] at h;exact wpAny_eqBool_int h
   ·rw[U71] at h;exact Ó2.int_str i t y u _ _ _ _ h
  ·rcases c10 hv with ⟨j,u,rfl,rfl⟩ | ⟨y,u,rfl,rfl⟩
   ·rw[U81] at h;exact Ó2.str_int x t j u _ _ _ _ h
   ·rw[U61] at h;exact wpAny_eqBool_str h
 «strs»:=λk x t v h=>by
  rcases c10 h with ⟨i,u,rfl,e⟩ | ⟨y,u,rfl,e⟩
  ·exact nomatch e
  ·injection e with e1 _;subst e1;cases v <;> rfl
inductive V where
 |non | bl (b:Bool) | int (i:Int) | str (x:Str) | byt (b:Array UInt8) | flt (b:UInt64) | ref (a:Addr) | ty (n:String)
 deriving DecidableEq
def RelV:V->Ã->Prop
 |.non,u=>u=á|.bl b,u=>u=Ë4 b|.int i,u=>∃ t,u=Ã.int i t|.str x,u=>∃ t,u=Ã.str x t|.byt b,u=>∃ t,u=Ã.bytes b t|.flt b,u=>∃ t,u=Ã.float b t|.ref a,u=>u=Ä8 a|.ty n,u=>u=Â4 n
abbrev Vals:List V->List Ã->Prop:=Ã6 RelV
theorem Vals.length{xs:List V}{us:List Ã}(r:Vals xs us):xs.length=us.length:=Ã6.length r
theorem Vals.get:∀ {xs:List V}{us:List Ã}{i:Nat}{x:V},Vals xs us->xs[i]?=some x->∃ u,us[i]?=some u/\RelV x u
 |_,_,_,_,.nil,e=>by simp at e|_,_,0,_,.cons r _,e=>by simp at e;subst e;exact⟨_,rfl,r⟩
 |_,_,i + 1,x,.cons _ t,e=>by
  obtain⟨u,h1,h2⟩:=Vals.get (i:=i) (x:=x) t (by simpa using e)
  exact⟨u,by simpa using h1,h2⟩
theorem Vals.set{x:V}{u:Ã}(r:RelV x u):∀ {xs:List V}{us:List Ã} (i:Nat),Vals xs us->Vals (xs.set i x) (us.set i u)
 |_,_,_,.nil=>.nil|_,_,0,.cons _ t=>.cons r t|_,_,i + 1,.cons q t=>.cons q (Vals.set r i t)
theorem Vals.append:∀ {xs ys:List V}{us ws:List Ã},Vals xs us->Vals ys ws->Vals (xs++ys) (us++ws)
 |_,_,_,_,.nil,s=>s|_,_,_,_,.cons r t,s=>.cons r (Vals.append t s)
theorem Vals.take:∀ {xs:List V}{us:List Ã} (n:Nat),Vals xs us->Vals (xs.take n) (us.take n)
 |_,_,0,_=>.nil|_,_,_ + 1,.nil=>.nil|_,_,n + 1,.cons r t=>.cons r (Vals.take n t)
theorem Vals.drop:∀ {xs:List V}{us:List Ã} (n:Nat),Vals xs us->Vals (xs.drop n) (us.drop n)
 |_,_,0,r=>r|_,_,_ + 1,.nil=>.nil|_,_,n + 1,.cons _ t=>Vals.drop n t
def x12:Option V->Option Ã->Prop
 |some v,some u=>RelV v u|none,none=>True|_,_=>False
def KV{κ:Type}:List (κ × V)->List (κ × Ã)->Prop:=Ã6 λ(p:κ × V) (q:κ × Ã)=>p.1=q.1/\RelV p.2 q.2
def kV:Key->V
 |.inl i=>.int i|.inr x=>.str x
inductive HO where
 |lst (xs:List V)
 |tup (xs:List V)
 |dK (kvs:List (Key × V)) | dT (kvs:List (List Key × V))
 |set (S:Int->Bool) (n:Nat)
 |ins (C dx:Addr) (fs:List (Str × V))
 |own (x:Addr)
 |xd (fs:List (Str × V))
 |met (f x:Addr)
 |rng (lo hi:Int)
 |frz (o:Obj) (u:HO)
 |tbl (ps:Array Value)
 |ext (φ:Heap->Prop)
abbrev Hp:=Ç->Option HO
def upd(H:Hp)(a:Ç)(o:HO):Hp:=λb=>if b=a then some o else H b
theorem c20{H:Hp}{a:Ç}{o:HO}:upd H a o a=some o:=by unfold upd;rw[if_pos rfl]
theorem a60{H:Hp}{a b:Ç}{o:HO}(h:b≠a):upd H a o b=H b:=by unfold upd;rw[if_neg h]
theorem b20{H:Hp}{a b:Ç}{o:HO}(h:H a=some o)(h':H b=none):a≠b:=by
 intro e;subst e;rw[h] at h';cases h'
section
variable (P:à) (w:ö)
def h60(H:Hp)(h:í)(a:Ç):HO->Prop
 |.lst xs=>xs.length<=sizeLine/\∃ (its:List Ã) (n:Nat),Vals xs its/\h.get? a=some { cls:=.type "list",data:=.seq its.toArray n }|.tup xs=>xs.length<=sizeLine/\∃ its:List Ã,Vals xs its/\Ê5 h a its.toArray|.dK kvs=>kvs.length<=sizeLine/\(a == sysModules)=false/\∃ vs,KV kvs vs/\h.DictOf (f61 P w) a vs
 |.dT kvs=>kvs.length<=sizeLine/\(a == sysModules)=false/\∃ xs:List (List Key × Ç × Ã),
   Ã6 (λ(p:List Key × V) (q:List Key × Ç × Ã)=>p.1=q.1/\H q.2.1=some (.tup (p.1.map kV))/\RelV p.2 q.2.2) kvs xs /\
   ∃ o es ep,h.get? a=some o/\o.ExactDict/\o.data=.dict es ep/\es.toList=xs.map (entryOfKey (tupleKind (f61 P w)))/\(xs.map (·.1)).Nodup
 |.set S n=>h.SetOf (intKind P w) a S n
 |.ins C dx fs=>H dx=some (.own a)/\fs.length<=1000/\dx≠a/\h.get? a=some (PySem.W.instObj C dx) /\
   ∃ mA,h.Ns1 dx mA/\(∀ f,x12 (fs.lookup f) (mA f))/\PySem.Within mA (fs.map (·.1))
 |.own _=>∃ o,h.get? a=some o|.xd fs=>∃ mA,h.Ns1 a mA/\∀ f,x12 (fs.lookup f) (mA f)|.rng lo hi=>∃ t u v,h.get? a=some { cls:=.type "range",data:=.fields #[.int lo t,.int hi u,.int 1 v] }|.frz o u=>h.get? a=some o/\h60 H h a u|.tbl ps=>h.get? a=some { cls:=.none,data:=.fields ps }|.met f x=>h.get? a=some (methodObj (.ref f) (.ref x))|.ext φ=>φ h/\(∃ o,h.get? a=some o)/\∀ h1 h2:í,φ h1->(∀ o,h1.get? a=some o->h2.get? a=some o)->φ h2
def HOk(H:Hp)(h:í):Prop:=∀ a o,H a=some o->h60 P w H h a o
end
section
variable {P:à}{w:ö}{H H':Hp}{h h':í}{a:Ç}{o:HO}
theorem h60.lt(x:h60 P w H h a o):a < h.objs.size:=by
 cases o with
 |lst xs=>obtain⟨_,_,_,_,e⟩:=x;exact Ý e
 |tup xs=>obtain⟨_,_,_,p⟩:=x;exact p.lt
 |dK kvs=>obtain⟨_,_,_,_,o,_,_,e,_⟩:=x;exact Ý e
 |dT kvs=>obtain⟨_,_,_,_,o,_,_,e,_⟩:=x;exact Ý e
 |set S n=>obtain⟨o,_,_,_,e,_⟩:=x;exact Ý e
 |ins C dx fs=>obtain⟨_,_,_,e,_⟩:=x;exact Ý e
 |own y=>obtain⟨_,e⟩:=x;exact Ý e
 |xd fs=>obtain⟨_,⟨_,_,_,e,_⟩,_⟩:=x;exact Ý e
 |rng lo hi=>obtain⟨_,_,_,e⟩:=x;exact Ý e
 |frz ob u=>obtain⟨e,_⟩:=x;exact Ý e
 |tbl ps=>exact Ý (show h.get? a=some _ from x)|met f y=>exact Ý (show h.get? a=some _ from x)|ext φ=>obtain⟨_,⟨_,e⟩,_⟩:=x;exact Ý e
theorem Ã6.T51{α β:Type}{F G:α->β->Prop}:∀ {l₁:List α}{l₂:List β},Ã6 F l₁ l₂->(∀ a b,F a b->G a b)->Ã6 G l₁ l₂
 |_,_,.nil,_=>.nil|_,_,.cons r t,f=>.cons (f _ _ r) (Ã6.T51 t f)
theorem h60.u31(x:h60 P w H h a o)(k:∀ b u,(b=a∨H b=some (.own a))->h.get? b=some u->h'.get? b=some u)
  (ho:∀ b,H b=some (.own a)->H' b=some (.own a)) (ht:∀ b xs,H b=some (.tup xs)->H' b=some (.tup xs)):h60 P w H' h' a o:=by
 induction o with
 |lst xs=>obtain⟨z,its,n,r,e⟩:=x;exact⟨z,its,n,r,k _ _ (.inl rfl) e⟩
 |tup xs=>obtain⟨z,its,r,ob,e,c⟩:=x;exact⟨z,its,r,ob,k _ _ (.inl rfl) e,c⟩
 |dK kvs=>obtain⟨z,y,vs,r,ob,es,ep,e,c⟩:=x;exact⟨z,y,vs,r,ob,es,ep,k _ _ (.inl rfl) e,c⟩
 |dT kvs =>
  obtain⟨z,y,xs,r,ob,es,ep,e,c⟩:=x;exact⟨z,y,xs,Ã6.T51 r λp q z=>⟨z.1,ht _ _ z.2.1,z.2.2⟩,ob,es,ep,k _ _ (.inl rfl) e,c⟩
 |set S n=>obtain⟨ob,es,ep,t,e,c⟩:=x;exact⟨ob,es,ep,t,k _ _ (.inl rfl) e,c⟩
 |ins C dx fs =>
  obtain⟨d,z,ne,e,mA,⟨od,es,ep,e2,c⟩,r⟩:=x;exact⟨ho _ d,z,ne,k _ _ (.inl rfl) e,mA,⟨od,es,ep,k _ _ (.inr d) e2,c⟩,r⟩
 |own y=>obtain⟨ob,e⟩:=x;exact⟨ob,k _ _ (.inl rfl) e⟩
 |xd fs=>obtain⟨mA,⟨od,es,ep,e,c⟩,r⟩:=x;exact⟨mA,⟨od,es,ep,k _ _ (.inl rfl) e,c⟩,r⟩
 |rng lo hi=>obtain⟨t,u,v,e⟩:=x;exact⟨t,u,v,k _ _ (.inl rfl) e⟩
 |frz ob u ih=>obtain⟨e,q⟩:=x;exact⟨k _ _ (.inl rfl) e,ih q⟩
 |tbl ps =>
  have e:h.get? a=some { cls:=.none,data:=.fields ps }:=x;show h'.get? a=some { cls:=.none,data:=.fields ps };exact k a _ (.inl rfl) e
 |met f y =>
  have e:h.get? a=some (methodObj (.ref f) (.ref y)):=x;show h'.get? a=some (methodObj (.ref f) (.ref y));exact k a _ (.inl rfl) e
 |ext φ=>obtain⟨p,⟨o,e⟩,st⟩:=x;exact⟨st _ _ p λo q=>k _ _ (.inl rfl) q,⟨o,k _ _ (.inl rfl) e⟩,st⟩
theorem HOk.lt(x:HOk P w H h)(e:H a=some o):a < h.objs.size:=(x a o e).lt
theorem HOk.fresh(x:HOk P w H h)(e:h.objs.size<=a):H a=none:=by
 cases q:H a with
 |none=>rfl|some u=>exact absurd (Ù (x.lt q) e) (À6 _)
theorem HOk.kept(x:HOk P w H h)(k:∀ b u,h.get? b=some u->h'.get? b=some u):HOk P w H h':=λa o e =>
 (x a o e).u31 (λb u _ q=>k b u q) (λ_ q=>q) λ_ _ q=>q
theorem HOk.laid(x:HOk P w H h)(k:∀ b u,h.get? b=some u->h'.get? b=some u)(hp:h.objs.size<=a)(new:h60 P w (upd H a o) h' a o):HOk P w (upd H a o) h':=λb u e=>by
 have hn:=x.fresh hp;by_cases hb:b=a
 ·subst hb;rw[c20] at e;cases e;exact new
 ·rw[a60 hb] at e;exact(x b u e).u31 (λc v _ q=>k c v q) (λc q=>by rw[a60 (b20 q hn)];exact q) λc xs q=>by rw[a60 (b20 q hn)];exact q
end
def Rd(H:Hp)(a:Ç)(u:HO):Prop:=H a=some u∨∃ o,H a=some (.frz o u)
theorem Rd.ok{P:à}{w:ö}{H:Hp}{h:í}{a:Ç}{u:HO}(r:Rd H a u)(x:HOk P w H h):h60 P w H h a u:=by
 rcases r with r | ⟨o,r⟩
 ·exact x a u r
 ·obtain⟨_,q⟩:=x a _ r;exact q
def Mut:Option HO->Prop
 |some (.lst _)=>True|some (.dK _)=>True|some (.dT _)=>True|some (.set _ _)=>True|some (.ins _ _ _)=>True|some (.ext _)=>True|_=>False
section
variable {P:à}{w:ö}{H:Hp}{h h':í}{x e:Ç}{o':HO}
theorem HOk.write(ok:HOk P w H h)(mu:Mut (H x))(he:e=x∨H e=some (.own x))(k:∀ b u,b≠e->h.get? b=some u->h'.get? b=some u)(heo:∃ u,h'.get? e=some u)
  (new:h60 P w (upd H x o') h' x o'):HOk P w (upd H x o') h':=λb u q=>by
 have nown:∀ c y,H c=some (.own y)->c≠x:=λc y r z=>by subst z;rw[r] at mu;exact mu
 have ntup:∀ c xs,H c=some (.tup xs)->c≠x:=λc xs r z=>by subst z;rw[r] at mu;exact mu
 by_cases hb:b=x
 ·subst hb;rw[c20] at q;cases q;exact new
 ·rw[a60 hb] at q;by_cases hbe:b=e
  ·have q':H b=some (.own x):=by
    rcases he with z | z
    ·exact absurd (hbe.trans z) hb
    ·rw[hbe];exact z
   rw[q] at q';cases q';obtain⟨v,hv⟩:=heo;exact⟨v,by rw[hbe];exact hv⟩
  ·refine(ok b u q).u31 (λc v hc r=>k c v ?_ r) (λc r=>by rw[a60 (nown c b r)];exact r) λc xs r=>by rw[a60 (ntup c xs r)];exact r
   rcases hc with rfl | hc
   ·exact hbe
   ·rintro rfl;rcases he with z | z
    ·exact nown c b hc z
    ·rw[hc] at z;cases z;exact hb rfl
end
structure Un(fs ex:List Addr)(H H':Hp)(h h':Heap):Prop where
 keep:∀ b o,h.get? b=some o->H b=none->b ∉ fs->b ∉ ex->h'.get? b=some o
 slot:∀ b o,h.get? b=some o->H b=none->b∈fs->b ∉ ex->∃ sl,h'.get? b=some { o with slots:=sl }
 free:∀ b o,h.get? b=some o->H b=none->b ∉ ex->H' b=none
 there:∀ b o,h.get? b=some o->b ∉ ex->∃ o',h'.get? b=some o'
 tups:∀ b xs,H b=some (.tup xs)->H' b=some (.tup xs)
 frzs:∀ b o u,H b=some (.frz o u)->H' b=some (.frz o u)
 tbls:∀ b ps,H b=some (.tbl ps)->∃ more,H' b=some (.tbl (ps++more))
section
variable {fs fs' ex ex':List Ç}{H H1 H2:Hp}{h h1 h2 h':í}{a x e:Ç}{o:HO}
theorem Un.any(u:Un fs ex H H1 h h1){b:Ç}{ob:Obj}(q:h.get? b=some ob)(n:H b=none)(hx:b ∉ ex):∃ sl,h1.get? b=some { ob with slots:=sl }:=by
 by_cases hb:b∈fs
 ·exact u.slot b ob q n hb hx
 ·exact⟨ob.slots,u.keep b ob q n hb hx⟩
theorem Un.trans(a:Un fs ex H H1 h h1)(b:Un fs ex H1 H2 h1 h2):Un fs ex H H2 h h2 where
 keep:=λc ob q n hc hx=>b.keep c ob (a.keep c ob q n hc hx) (a.free c ob q n hx) hc hx
 slot:=λc ob q n hc hx=>by
  obtain⟨sl,e1⟩:=a.slot c ob q n hc hx;obtain⟨sl',e2⟩:=b.slot c _ e1 (a.free c ob q n hx) hc hx;exact⟨sl',e2⟩
 free:=λc ob q n hx=>by
  obtain⟨o',e1⟩:=a.there c ob q hx;exact b.free c o' e1 (a.free c ob q n hx) hx
 there:=λc ob q hx=>by
  obtain⟨o',e1⟩:=a.there c ob q hx;exact b.there c o' e1 hx
 tups:=λc xs q=>b.tups c xs (a.tups c xs q)
 frzs:=λc ob xs q=>b.frzs c ob xs (a.frzs c ob xs q)
 tbls:=λc ps q=>by
  obtain⟨m1,e1⟩:=a.tbls c ps q;obtain⟨m2,e2⟩:=b.tbls c _ e1;exact⟨m1++m2,by rw[e2,Array.append_assoc]⟩
theorem Un.kept(k:∀ b u,h.get? b=some u->h'.get? b=some u):Un fs ex H H h h' :=
 ⟨λb ob q _ _ _=>k b ob q,λb ob q _ _ _=>⟨ob.slots,k b ob q⟩,λ_ _ _ n _=>n,λb ob q _=>⟨ob,k b ob q⟩,λ_ _ q=>q,λ_ _ _ q=>q,λ_ ps q=>⟨#[],by rw[q];simp⟩⟩
theorem Un.refl:Un fs ex H H h h:=Un.kept λ_ _ q=>q
theorem Un.laid(k:∀ b u,h.get? b=some u->h'.get? b=some u)(hp:h.objs.size<=a)(hn:H a=none):Un fs ex H (upd H a o) h h' where
 keep:=λb u q _ _ _=>k b u q
 slot:=λb u q _ _ _=>⟨u.slots,k b u q⟩
 free:=λb u q n _=>by rw[a60 (ã (Ù (Ý q) hp))];exact n
 there:=λb u q _=>⟨u,k b u q⟩
 tups:=λb xs q=>by rw[a60 (b20 q hn)];exact q
 frzs:=λb u xs q=>by rw[a60 (b20 q hn)];exact q
 tbls:=λb ps q=>⟨#[],by rw[a60 (b20 q hn),q];simp⟩
theorem Un.write(mu:Mut (H x))(he:e=x∨H e=some (.own x))(k:∀ b u,b≠e->h.get? b=some u->h'.get? b=some u)(heo:∃ u,h'.get? e=some u):Un fs ex H (upd H x o) h h':=by
 have hx:∀ b,H b=none->b≠x:=λb n z=>by subst z;rw[n] at mu;exact mu
 have hb:∀ b,H b=none->b≠e:=λb n z=>by
  subst z;rcases he with r | r
  ·exact hx b n r
  ·rw[n] at r;cases r
 have hm:∀ b u,H b=some u->¬ Mut (some u)->b≠x:=λb u q nm z=>by subst z;rw[q] at mu;exact nm mu
 refine⟨λb u q n _ _=>k b u (hb b n) q,λb u q n _ _=>⟨u.slots,k b u (hb b n) q⟩,λb u q n _=>by rw[a60 (hx b n)];exact n,λb u q _=>?_,
  λb xs q=>by rw[a60 (hm b _ q λz=>z)];exact q,λb u xs q=>by rw[a60 (hm b _ q λz=>z)];exact q,λb ps q=>⟨#[],by rw[a60 (hm b _ q λz=>z),q];simp⟩⟩
 by_cases hbe:b=e
 ·subst hbe;exact heo
 ·exact⟨u,k b u hbe q⟩
theorem Un.mono(u:Un fs ex H H1 h h1)(hs:∀ b∈fs,b∈fs')(hx:∀ b∈ex,b∈ex'):Un fs' ex' H H1 h h1 :=
 ⟨λb ob q n hb he=>u.keep b ob q n (λz=>hb (hs b z)) λz=>he (hx b z),λ_ _ q n _ he=>u.any q n λz=>he (hx _ z),λb ob q n he=>u.free b ob q n λz=>he (hx b z),λb ob q he=>u.there b ob q λz=>he (hx b z),u.tups,u.frzs,u.tbls⟩
end
def trk(h:í)(H:Hp):List Addr:=(î h.objs.size).filter λa=>(H a).isSome
def u41(h:í)(H:Hp):Heap:=hideAll h (trk h H)
theorem f71(h:í)(H:Hp):(u41 h H).objs.size=h.objs.size:=PySem.W.hideAll_size _ _
theorem F30{h:í}{H:Hp}{b:Ç}{o:Obj}(e:h.get? b=some o)(n:H b=none):(u41 h H).get? b=some o :=
 hideAll_get _ e λhm=>by
  have q:(H b).isSome=true:=(Ð2.mp hm).2;rw[n] at q;simp at q
theorem H91{h:í}{H:Hp}{b:Ç}{o:Obj}(e:(u41 h H).get? b=some o):h.get? b=some o/\H b=none:=by
 have e':h.get? b=some o:=of_hideAll (trk h H) e;refine⟨e',?_⟩;cases q:H b with
 |none=>rfl
 |some x =>
  have hm:b∈trk h H:=Ð2.mpr ⟨Æ8.mpr (Ý e'),by simp[q]⟩
  have z:(u41 h H).get? b=none:=PySem.W.hideAll_none (trk h H) hm;rw[z] at e;cases e
structure Mod(K:PySem.W.Frag)(mg:Str->Option Value)(base:Heap):Prop where
 kin:K.In base
 glob:base.Ns mainGlobals mg
 blt:∃ mb,base.Ns builtinsNs mb/\∀ x:Str,x≠"__name__"->mb x=bootBuiltins x
 nolimit:base.NoLimit
structure Cx where
 prog:Program
 w:World
 K:PySem.W.Frag
 mg:Str->Option Value
 base:Heap
 A:Around
 N:List Str
 s₀:Shared
 H₀:Hp
 env:Env
 outer:List Env
 stack:List Env
 ex:List Addr
 fn:Str->Bool
 calm:Bool
 pn:List (Addr × Obj)
 xe:Value->Shared->Prop
def frs(l:List Env):List Addr:=l.filterMap (·.frame)
abbrev Cx.fs(X:Cx):List Addr:=frs X.outer
def Vis(sc:À9)(x:Str):Prop:=sc.names.lookup x=some .local∨sc.names.lookup x=some .cell∨sc.names.lookup x=some .free
def Loc(sc:À9)(x:Str):Prop:=sc.names.lookup x=some .local∨sc.names.lookup x=some .cell
def Look(env:Env)(h:í)(m:Str->Option Ã)(x:Str)(u:Ã):Prop :=
 (env.kindOf x=some .local/\m x=some u)∨((env.kindOf x=some .cell∨env.kindOf x=some .free)/\∃ c,env.cells.lookup x=some c/\h.IsCell c (some u))
structure Cx.Ok(X:Cx):Prop where
 mod:Mod X.K X.mg X.base
 kind:X.env.scope.kind=.function
 glob:X.env.globals=mainGlobals
 blt:X.env.builtins=builtinsNs
 above:X.s₀.heap.objs.size<=X.env.locals
 inj:∀ x y c,X.env.cells.lookup x=some c->X.env.cells.lookup y=some c->x=y
 has:∀ x,(X.env.kindOf x=some .cell∨X.env.kindOf x=some .free)->∃ c,X.env.cells.lookup x=some c
 cab:∀ x c,X.fn x=true->X.env.cells.lookup x=some c->X.s₀.heap.objs.size<=c
 hd:X.calm=true->X.A.handled=none
 frames:X.A.frames=some X.stack
 stk:X.stack=X.outer∨(X.stack=X.env::X.outer/\X.env.frame=some X.env.locals)
 exf:∀ b∈X.ex,b≠X.env.locals/\∀ x c,X.env.cells.lookup x=some c->c≠b
 bs:∀ b o,X.base.get? b=some o->X.s₀.heap.get? b=some o/\X.H₀ b=none
 bsz:X.base.objs.size<=X.s₀.heap.objs.size
 noex:∀ b o,X.base.get? b=some o->b ∉ X.ex
 exfs:∀ b∈X.ex,b ∉ X.fs
 u01:X.s₀.heap.FunFrames X.base X.outer
 frf:∀ b∈X.fs,X.H₀ b=none
structure Inv(X:Cx)(pins:List (Addr × Obj))(σ:List (Option V))(H:Hp)(s:Shared):Prop where
 ok:X.Ok
 os:s.os=X.s₀.os
 bare:AllBare s.gens
 base:Un X.fs X.ex X.H₀ H X.s₀.heap s.heap
 loc:∃ m,s.heap.Ns X.env.locals m/\∀ (i:Nat) (x:Str) (v:V),X.N[i]?=some x->σ[i]?=some (some v)->Vis X.env.scope x->∃ u,RelV v u/\Look X.env s.heap m x u
 cell:∀ x c,X.env.cells.lookup x=some c->∃ v,s.heap.IsCell c v
 free:H X.env.locals=none
 freeC:∀ x c,X.env.cells.lookup x=some c->H c=none
 pin:∀ p∈X.pn++pins,s.heap.get? p.1=some p.2/\H p.1=none/\p.1≠X.env.locals/\p.1 ∉ X.fs/\∀ v,p.2.data≠.cell v
 hok:HOk X.prog X.w H s.heap
 len:σ.length=X.N.length
section
variable {X:Cx}{pins:List (Ç × Obj)}{σ:List (Option V)}{H H':Hp}{s:Å}{h':í}
theorem Cx.Ok.A22(ok:X.Ok){b:Ç}{o:Obj}(e:X.base.get? b=some o):b ∉ X.fs:=λhb=>by
 have:=(ok.u01.mem hb).1;rw[e] at this;cases this
theorem Inv.bs(I:Inv X pins σ H s):∀ b o,X.base.get? b=some o->s.heap.get? b=some o/\H b=none:=λb o e =>
 ⟨I.base.keep b o (I.ok.bs b o e).1 (I.ok.bs b o e).2 (I.ok.A22 e) (I.ok.noex b o e),I.base.free b o (I.ok.bs b o e).1 (I.ok.bs b o e).2 (I.ok.noex b o e)⟩
theorem Inv.bk(I:Inv X pins σ H s):∀ b o,X.base.get? b=some o->s.heap.get? b=some o:=λb o e=>(I.bs b o e).1
theorem Inv.mod(I:Inv X pins σ H s):Mod X.K X.mg X.base:=I.ok.mod
theorem Inv.kIn(I:Inv X pins σ H s):X.K.In s.heap:=I.ok.mod.kin.keeps I.bk
theorem Inv.lt(I:Inv X pins σ H s):X.env.locals < s.heap.objs.size:=let ⟨_,hn,_⟩:=I.loc;hn.lt
theorem Inv.sz(I:Inv X pins σ H s):X.s₀.heap.objs.size<=s.heap.objs.size:=Ò I.ok.above (Ä1 I.lt)
theorem Inv.A32(I:Inv X pins σ H s){a:Ç}(h:s.heap.objs.size<=a):a ∉ X.fs:=λhb=>by
 obtain⟨_,o,ho,_⟩:=I.ok.u01.mem hb;exact absurd (Ù (Ý ho) (Ò I.sz h)) (À6 _)
theorem Inv.cne(I:Inv X pins σ H s):∀ x c,X.env.cells.lookup x=some c->c≠X.env.locals:=λx c e z=>by
 obtain⟨v,o,ho,hd⟩:=I.cell x c e;obtain⟨m,⟨o',es,ep,ho',hd',_⟩,_⟩:=I.loc;rw[z,ho'] at ho;cases ho;rw[hd'] at hd;cases hd
theorem Inv.u01(I:Inv X pins σ H s):s.heap.FunFrames X.base X.outer:=by
 have all:∀ (l:List Env),(∀ b∈frs l,b∈X.fs)->X.s₀.heap.FunFrames X.base l->s.heap.FunFrames X.base l:=by
  intro l
  induction l with
  |nil=>intro _ _;trivial
  |cons env r ih =>
   intro hs hl;obtain⟨hk,⟨L,o,hf,hn,ho,hd⟩,hr⟩:=hl;have hL:L∈X.fs:=hs L (by unfold frs;rw[À5,hf];exact Ð)
   obtain⟨sl,e⟩:=I.base.slot L o ho (I.ok.frf L hL) hL λz=>I.ok.exfs L z hL;exact⟨hk,⟨L,_,hf,hn,e,hd⟩,ih (λb hb=>hs b (by unfold frs;rw[À5,hf];exact Ì _ hb)) hr⟩
 exact all X.outer (λ_ hb=>hb) I.ok.u01
theorem Inv.stack(I:Inv X pins σ H s):s.heap.FunFrames X.base X.stack:=by
 rcases I.ok.stk with e | ⟨e,hf⟩
 ·rw[e];exact I.u01
 ·rw[e];obtain⟨m,hn,_⟩:=I.loc;refine .cons (by rw[I.ok.kind];decide) hf hn ?_ I.u01
  exact í.get?_none_of_le (Ò I.ok.bsz I.ok.above)
theorem Inv.f81(I:Inv X pins σ H s):∀ b∈frs X.stack,b∈X.env.locals::X.fs:=λb hb=>by
 rcases I.ok.stk with e | ⟨e,hf⟩
 ·rw[e] at hb;exact Ì _ hb
 ·rw[e] at hb;unfold frs at hb;rw[À5,hf] at hb;exact hb
theorem Inv.Q90(I:Inv X pins σ H s):∀ b∈frs X.stack,H b=none:=λb hb=>by
 rcases ü.mp (I.f81 b hb) with e | hb
 ·rw[e];exact I.free
 ·obtain⟨_,o,ho,_⟩:=I.ok.u01.mem hb;exact I.base.free b o ho (I.ok.frf b hb) λz=>I.ok.exfs b z hb
theorem Inv.step{g':Array GenState}{t':Nat}{d':Drawn}{ch:List Ç}(I:Inv X pins σ H s)
  (hch:∀ b∈ch,(b∈X.ex∨X.s₀.heap.objs.size<=b)/\b≠X.env.locals/\(∀ x c,X.env.cells.lookup x=some c->c≠b)/\∀ p∈X.pn++pins,p.1≠b)
  (keep:∀ b o,b≠X.env.locals->b ∉ X.fs->b ∉ ch->s.heap.get? b=some o->H b=none->h'.get? b=some o)
  (slot:∀ b o,b≠X.env.locals->b∈X.fs->b ∉ ch->s.heap.get? b=some o->H b=none->∃ sl,h'.get? b=some { o with slots:=sl }) (free:∀ b o,b ∉ ch->s.heap.get? b=some o->H b=none->H' b=none)
  (there:∀ b o,b ∉ ch->s.heap.get? b=some o->∃ o',h'.get? b=some o')
  (tups:∀ b xs,H b=some (.tup xs)->H' b=some (.tup xs)) (frzs:∀ b o u,H b=some (.frz o u)->H' b=some (.frz o u)) (tbls:∀ b ps,H b=some (.tbl ps)->∃ more,H' b=some (.tbl (ps++more)))
  (ns:∀ m,s.heap.Ns X.env.locals m->h'.Ns X.env.locals m) (hok:HOk X.prog X.w H' h') (hg:Ò2 g') :
  Inv X pins σ H' { s with heap:=h',gens:=g',drawn:=d',toks:=t' }:=by
 have neL:∀ b o,X.s₀.heap.get? b=some o->b≠X.env.locals:=λb o e=>ã (Ù (Ý e) I.ok.above);have neC:∀ b o,X.s₀.heap.get? b=some o->b ∉ X.ex->b ∉ ch:=λb o e hx hb=>by
  rcases (hch b hb).1 with z | z
  ·exact hx z
  ·exact absurd (Ù (Ý e) z) (À6 _)
 have cellK:∀ x c,X.env.cells.lookup x=some c->∀ v,s.heap.IsCell c v->h'.IsCell c v:=λx c e v ⟨o,ho,hd⟩=>by
  have nch:c ∉ ch:=λz=>(hch c z).2.2.1 x c e rfl;by_cases hc:c∈X.fs
  ·obtain⟨sl,q⟩:=slot c o (I.cne x c e) hc nch ho (I.freeC x c e);exact⟨_,q,hd⟩
  ·exact⟨o,keep c o (I.cne x c e) hc nch ho (I.freeC x c e),hd⟩
 refine⟨I.ok,I.os,hg,⟨λb o e n hb hx=>?_,λb o e n hb hx=>?_,λb o e n hx=>?_,λb o e hx=>?_,λb xs e=>tups b xs (I.base.tups b xs e),λb o xs e=>frzs b o xs (I.base.frzs b o xs e),λb ps e=>?_⟩,?_,λx c e=>?_,?_,λx c e=>?_,λp hp=>?_,hok,I.len⟩
 ·exact keep b o (neL b o e) hb (neC b o e hx) (I.base.keep b o e n hb hx) (I.base.free b o e n hx)
 ·obtain⟨sl,e1⟩:=I.base.slot b o e n hb hx;obtain⟨sl',e2⟩:=slot b _ (neL b o e) hb (neC b o e hx) e1 (I.base.free b o e n hx);exact⟨sl',e2⟩
 ·obtain⟨o',e1⟩:=I.base.there b o e hx;exact free b o' (neC b o e hx) e1 (I.base.free b o e n hx)
 ·obtain⟨o',e1⟩:=I.base.there b o e hx;exact there b o' (neC b o e hx) e1
 ·obtain⟨m1,e1⟩:=I.base.tbls b ps e;obtain⟨m2,e2⟩:=tbls b _ e1;exact⟨m1++m2,by rw[e2,Array.append_assoc]⟩
 ·obtain⟨m,hn,hl⟩:=I.loc;refine⟨m,ns m hn,λi x v e1 e2 e3=>?_⟩;obtain⟨u,r,l⟩:=hl i x v e1 e2 e3;refine⟨u,r,?_⟩;rcases l with l | ⟨k,c,e,z⟩
  ·exact .inl l
  ·exact .inr ⟨k,c,e,cellK x c e _ z⟩
 ·obtain⟨v,z⟩:=I.cell x c e;exact⟨v,cellK x c e v z⟩
 ·obtain⟨m,⟨o,_,_,ho,_⟩,_⟩:=I.loc;exact free _ o (λz=>(hch _ z).2.1 rfl) ho I.free
 ·obtain⟨v,o,ho,hd⟩:=I.cell x c e;exact free c o (λz=>(hch c z).2.2.1 x c e rfl) ho (I.freeC x c e)
 ·obtain⟨e,n,ne,nf,d⟩:=I.pin p hp;have nch:p.1 ∉ ch:=λz=>(hch p.1 z).2.2.2 p hp rfl;exact⟨keep p.1 p.2 ne nf nch e n,free p.1 p.2 nch e n,ne,nf,d⟩
theorem Inv.un{t':Nat}(I:Inv X pins σ H s)(u:Un X.fs [] H H' s.heap h')(hok:HOk X.prog X.w H' h'):Inv X pins σ H' { s with heap:=h',toks:=t' }:=by
 obtain⟨m,⟨o,es,ep,ho,r⟩,_⟩:=id I.loc;obtain⟨sl,hL⟩:=u.any ho I.free (by simp)
 exact I.step (g':=s.gens) (d':=s.drawn) (ch:=[]) (λ_ z=>nomatch z) (λb o _ hb _ e n=>u.keep b o e n hb (by simp)) (λb o _ hb _ e n=>u.slot b o e n hb (by simp)) (λb o _ e n=>u.free b o e n (by simp)) (λb o _ e=>u.there b o e (by simp)) u.tups u.frzs u.tbls (λm' hm=>by
  obtain⟨o',es',ep',ho',r'⟩:=hm;rw[ho] at ho';cases ho';exact⟨_,es',ep',hL,r'⟩) hok I.bare
theorem Inv.call{g':Array GenState}{t':Nat}{d':Drawn}{ch:List Ç}(I:Inv X pins σ H s)(u:Un (frs X.stack) ch H H' s.heap h')(hok:HOk X.prog X.w H' h')(hg:Ò2 g')
  (hch:∀ b∈ch,(b∈X.ex∨X.s₀.heap.objs.size<=b)/\b≠X.env.locals/\(∀ x c,X.env.cells.lookup x=some c->c≠b)/\∀ p∈X.pn++pins,p.1≠b) :
  Inv X pins σ H' { s with heap:=h',gens:=g',drawn:=d',toks:=t' }:=by
 obtain⟨m,⟨o,es,ep,ho,r⟩,_⟩:=id I.loc;obtain⟨sl,hL⟩:=u.any ho I.free λz=>(hch _ z).2.1 rfl;exact I.step (ch:=ch) hch (λb o hL hb hc e n=>u.keep b o e n (λz=>(ü.mp (I.f81 b z)).elim hL hb) hc) (λb o _ _ hc e n=>u.any e n hc) (λb o hc e n=>u.free b o e n hc) (λb o hc e=>u.there b o e hc) u.tups u.frzs u.tbls (λm' hm=>by
  obtain⟨o',es',ep',ho',r'⟩:=hm;rw[ho] at ho';cases ho';exact⟨_,es',ep',hL,r'⟩) hok hg
theorem Inv.turned{t':Nat}{it:Ç}(I:Inv X pins σ H s)(k:∀ b o,b≠it->s.heap.get? b=some o->h'.get? b=some o)(hn:H it=none)(hL:it≠X.env.locals)
  (h1:it∈X.ex∨X.s₀.heap.objs.size<=it) (h2:∀ x c,X.env.cells.lookup x=some c->c≠it) (h3:∀ p∈X.pn++pins,p.1≠it):Inv X pins σ H { s with heap:=h',toks:=t' }:=by
 have nit:∀ b u,H b=some u->b≠it:=λb u e z=>by rw[z,hn] at e;cases e
 refine I.step (g':=s.gens) (d':=s.drawn) (ch:=[it]) (λb hb=>?_) (λb o _ _ hc e _=>k b o (λz=>hc (by simp[z])) e) (λb o _ _ hc e _=>⟨o.slots,k b o (λz=>hc (by simp[z])) e⟩) (λ_ _ _ _ n=>n)
  (λb o hc e=>⟨o,k b o (λz=>hc (by simp[z])) e⟩) (λ_ _ e=>e) (λ_ _ _ e=>e) (λb ps e=>⟨#[],by rw[e];simp⟩) (λm hm=>?_) (λb u e=>?_) I.bare
 ·have e:b=it:=by simpa using hb
  subst e;exact⟨h1,hL,h2,h3⟩
 ·obtain⟨o,es,ep,ho,r⟩:=hm;exact⟨o,es,ep,k _ o (À4 hL) ho,r⟩
 ·refine(I.hok b u e).u31 (λc v hc q=>k c v ?_ q) (λ_ q=>q) λ_ _ q=>q;rcases hc with z | z
  ·rw[z];exact nit b u e
  ·exact nit c _ z
theorem Inv.tok(I:Inv X pins σ H s)(t:Nat):Inv X pins σ H { s with toks:=t }:=I.un (h':=s.heap) (t':=t) Un.refl I.hok
theorem Inv.kept{t':Nat}(I:Inv X pins σ H s)(k:∀ b u,s.heap.get? b=some u->h'.get? b=some u):Inv X pins σ H { s with heap:=h',toks:=t' }:=I.un (Un.kept k) (I.hok.kept k)
theorem Inv.laid{a:Ç}{o:HO}{t':Nat}(I:Inv X pins σ H s)(k:∀ b u,s.heap.get? b=some u->h'.get? b=some u)(hp:s.heap.objs.size<=a)(new:h60 X.prog X.w (upd H a o) h' a o) :
  Inv X pins σ (upd H a o) { s with heap:=h',toks:=t' }:=I.un (Un.laid k hp (I.hok.fresh hp)) (I.hok.laid k hp new)
theorem Inv.write{x e:Ç}{o:HO}{t':Nat}(I:Inv X pins σ H s)(mu:Mut (H x))(he:e=x∨H e=some (.own x))(k:∀ b u,b≠e->s.heap.get? b=some u->h'.get? b=some u)(heo:∃ u,h'.get? e=some u)
  (new:h60 X.prog X.w (upd H x o) h' x o):Inv X pins σ (upd H x o) { s with heap:=h',toks:=t' }:=I.un (Un.write mu he k heo) (I.hok.write mu he k heo new)
theorem Inv.z00{pins':List (Ç × Obj)}(I:Inv X pins σ H s)(h:∀ p∈pins',s.heap.get? p.1=some p.2/\H p.1=none/\p.1≠X.env.locals/\p.1 ∉ X.fs/\∀ v,p.2.data≠.cell v):Inv X pins' σ H s :=
 ⟨I.ok,I.os,I.bare,I.base,I.loc,I.cell,I.free,I.freeC,λp hp=>(Â0.mp hp).elim (λz=>I.pin p (Ë0 _ z)) (h p),I.hok,I.len⟩
theorem W30{N:List Str}(hN:N.Nodup){i j:Nat}{x:Str}(a:N[i]?=some x)(b:N[j]?=some x):i=j:=by
 obtain⟨h1,e1⟩:=Þ.mp a;obtain⟨h2,e2⟩:=Þ.mp b;exact(List.getElem_inj hN).mp (e1.trans e2.symm)
theorem L10{M:Model}{A:þ}{E:Ã->Å->Prop}{i:Nat}{x:Str}{v:V}{u:Ã}{Q:Unit->Å->Prop}(I:Inv X pins σ H s)(hN:X.N.Nodup)(hi:X.N[i]?=some x)(hx:Loc X.env.scope x)(r:RelV v u)
  (h:∀ s',Inv X pins (σ.set i (some v)) H s'->(∃ a,Ü4 a s.heap s'.heap/\(a=X.env.locals∨X.env.cells.lookup x=some a))->Q () s') (hf:X.fn x=true∨X.env.scope.names.lookup x=some .local:=by first | exact .inl rfl | exact .inr rfl | assumption):Ï M A (storeName X.env x u) Q E s:=by
 obtain⟨m,hn,hl⟩:=id I.loc;have hcls:(X.env.scope.kind == .class || (X.env.scope.kind == .module&&X.env.locals != X.env.globals))=false:=by rw[I.ok.kind];rfl
 have hiσ:i < σ.length:=by rw[I.len];exact(Þ.mp hi).1
 have cne:=I.cne;have tracked:∀ {a:Ç}{h':í},(∃ o,s.heap.get? a=some o/\H a=none)->Ü4 a s.heap h'->HOk X.prog X.w H h':=λ{a h'} ha hs b ob e=>by
  obtain⟨_,_,hfree⟩:=ha;refine(I.hok b ob e).u31 (λc w' hc q=>(hs.2 c ?_).trans q) (λ_ q=>q) λ_ _ q=>q;rintro rfl;rcases hc with rfl | hc
  ·rw[hfree] at e;cases e
  ·rw[hfree] at hc;cases hc
 rcases hx with hk | hk
 ·refine wpAny_storeName_local hk hn (λh' hn' hs=>?_) hcls;obtain⟨oL,_,_,hoL,_⟩:=id hn;refine h _ ⟨I.ok,I.os,I.bare,⟨λb o e n hb hx=>?_,λb o e n hb hx=>?_,I.base.free,λb o e hx=>?_,I.base.tups,I.base.frzs,I.base.tbls⟩,⟨_,hn',λj y v' e1 e2 e3=>?_⟩,λy c e=>?_,I.free,I.freeC,λp hp=>?_,tracked ⟨oL,hoL,I.free⟩ hs,by simpa using I.len⟩ ⟨_,hs,.inl rfl⟩
  ·exact(hs.2 b (ã (Ù (Ý e) I.ok.above))).trans (I.base.keep b o e n hb hx)
  ·obtain⟨sl,e1⟩:=I.base.slot b o e n hb hx;exact⟨sl,(hs.2 b (ã (Ù (Ý e) I.ok.above))).trans e1⟩
  ·obtain⟨o',e1⟩:=I.base.there b o e hx;exact⟨o',(hs.2 b (ã (Ù (Ý e) I.ok.above))).trans e1⟩
  ·by_cases hj:j=i
   ·subst hj;rw[hi] at e1;cases e1;rw[æ hiσ] at e2;cases e2;exact⟨u,r,.inl ⟨hk,by simp⟩⟩
   ·rw[ß (À4 hj)] at e2;obtain⟨u',r',q⟩:=hl j y v' e1 e2 e3;refine⟨u',r',?_⟩;rcases q with ⟨k,e⟩ | ⟨k,c,e,z⟩
    ·refine .inl ⟨k,?_⟩;have:y≠x:=λe=>hj (W30 hN e1 (e ▸ hi));simp[this,e]
    ·exact .inr ⟨k,c,e,z.sameBut hs (cne y c e)⟩
  ·obtain⟨w',z⟩:=I.cell y c e;exact⟨w',z.sameBut hs (cne y c e)⟩
  ·obtain⟨e,n,ne,nf,d⟩:=I.pin p hp;exact⟨(hs.2 p.1 ne).trans e,n,ne,nf,d⟩
 ·have hfn:X.fn x=true:=by
   rcases hf with z | z
   ·exact z
   ·rw[z] at hk;cases hk
  obtain⟨c,hc⟩:=I.ok.has x (.inl hk);obtain⟨w',z⟩:=I.cell x c hc;refine wpAny_storeName_cell I.ok.kind hk hc z (λh' hc' hs=>?_);obtain⟨oc,hoc,hocd⟩:=id z;refine h { s with heap:=h' } ⟨I.ok,I.os,I.bare,⟨λb o e n hb hx=>?_,λb o e n hb hx=>?_,I.base.free,λb o e hx=>?_,I.base.tups,I.base.frzs,I.base.tbls⟩,⟨m,hn.sameBut hs (À4 (cne x c hc)),λj y v' e1 e2 e3=>?_⟩,λy c' e=>?_,I.free,I.freeC,λp hp=>?_,tracked ⟨oc,hoc,I.freeC x c hc⟩ hs,by simpa using I.len⟩ ⟨c,hs,.inr hc⟩
  ·exact(hs.2 b (ã (Ù (Ý e) (I.ok.cab x c hfn hc)))).trans (I.base.keep b o e n hb hx)
  ·obtain⟨sl,e1⟩:=I.base.slot b o e n hb hx;exact⟨sl,(hs.2 b (ã (Ù (Ý e) (I.ok.cab x c hfn hc)))).trans e1⟩
  ·obtain⟨o',e1⟩:=I.base.there b o e hx;exact⟨o',(hs.2 b (ã (Ù (Ý e) (I.ok.cab x c hfn hc)))).trans e1⟩
  ·by_cases hj:j=i
   ·subst hj;rw[hi] at e1;cases e1;rw[æ hiσ] at e2;cases e2;exact⟨u,r,.inr ⟨.inl hk,c,hc,hc'⟩⟩
   ·rw[ß (À4 hj)] at e2;obtain⟨u',r',q⟩:=hl j y v' e1 e2 e3;refine⟨u',r',?_⟩;rcases q with q | ⟨k,c',e,z'⟩
    ·exact .inl q
    ·refine .inr ⟨k,c',e,z'.sameBut hs ?_⟩;rintro rfl;exact hj (W30 hN e1 (I.ok.inj _ _ _ e hc ▸ hi))
  ·by_cases hcc:c'=c
   ·subst hcc;exact⟨_,hc'⟩
   ·obtain⟨w2,z2⟩:=I.cell y c' e;exact⟨w2,z2.sameBut hs hcc⟩
  ·obtain⟨e,n,ne,nf,d⟩:=I.pin p hp;refine⟨(hs.2 p.1 ?_).trans e,n,ne,nf,d⟩;intro q;rw[q,hoc] at e;have q':oc=p.2:=ý e;exact d w' (by rw[← q'];exact hocd)
theorem i00{M:Model}{A:þ}{E:Ã->Å->Prop}{i:Nat}{x:Str}{v:V}{u:Ã}{Q:Unit->Å->Prop}(I:Inv X pins σ H s)(hN:X.N.Nodup)(hi:X.N[i]?=some x)(hx:Loc X.env.scope x)(r:RelV v u)
  (h:∀ s',Inv X pins (σ.set i (some v)) H s'->Q () s') (hf:X.fn x=true∨X.env.scope.names.lookup x=some .local:=by first | exact .inl rfl | exact .inr rfl | assumption):Ï M A (storeName X.env x u) Q E s :=
 L10 I hN hi hx r (λs' I' _=>h s' I') hf
theorem Inv.l32{s':Å}{ch:List Ç}(I:Inv X pins σ H s)(ho:s'.os=s.os)(u:Un (frs X.stack) ch H H' s.heap s'.heap)(hok:HOk X.prog X.w H' s'.heap)(hg:Ò2 s'.gens)
  (hch:∀ b∈ch,(b∈X.ex∨X.s₀.heap.objs.size<=b)/\b≠X.env.locals/\(∀ x c,X.env.cells.lookup x=some c->c≠b)/\∀ p∈X.pn++pins,p.1≠b):Inv X pins σ H' s':=by
 obtain⟨h',g',d',t',o'⟩:=s';have e:o'=s.os:=ho;subst e;exact I.call (g':=g') (t':=t') (d':=d') u hok hg hch
end
abbrev XK:=Ã->Option Ç->Hp->Prop
abbrev St:=List (Option V)
abbrev VK:=V->Hp->Prop
abbrev TE:=St->Hp->VK->Prop
abbrev TT:=St->Hp->(Bool->Hp->Prop)->Prop
abbrev TA:=St->Hp->(List V->Hp->Prop)->Prop
structure Ends where
 nx:St->Hp->Prop
 rt:VK
 bk:St->Hp->Prop:=λ_ _=>False
 ct:St->Hp->Prop:=λ_ _=>False
abbrev TS:=Ends->St->Hp->Prop
def EP(X:Cx)(pins:List (Ç × Obj))(σ:St)(Q:VK)(u:Ã)(s':Å):Prop:=∃ v H',Inv X pins σ H' s'/\RelV v u/\Q v H'
def TP(X:Cx)(pins:List (Ç × Obj))(σ:St)(Q:Bool->Hp->Prop)(b:Bool)(s':Å):Prop:=∃ H',Inv X pins σ H' s'/\Q b H'
def AP(X:Cx)(pins:List (Ç × Obj))(σ:St)(Q:List V->Hp->Prop)(us:List Ã)(s':Å):Prop:=∃ vs H',Inv X pins σ H' s'/\Vals vs us/\Q vs H'
def SP(X:Cx)(pins:List (Ç × Obj))(D:Ends)(f:Flow)(s':Å):Prop :=
 match f with
 |.next=>∃ σ' H',Inv X pins σ' H' s'/\D.nx σ' H'
 |.brk=>∃ σ' H',Inv X pins σ' H' s'/\D.bk σ' H'|.cont=>∃ σ' H',Inv X pins σ' H' s'/\D.ct σ' H'|.ret u=>∃ v σ' H',Inv X pins σ' H' s'/\RelV v u/\D.rt v H'
def PE(X:Cx)(e:Í)(t:TE):Prop :=
 ∀ (pins:List (Ç × Obj)) (s:Å) (σ:St) (H:Hp) (Q:VK),Inv X pins σ H s->t σ H Q->Ï (Ô X.prog X.w) X.A (eval e X.env) (EP X pins σ Q) X.xe s
def PT(X:Cx)(e:Í)(t:TT):Prop :=
 ∀ (pins:List (Ç × Obj)) (s:Å) (σ:St) (H:Hp) (Q:Bool->Hp->Prop),Inv X pins σ H s->t σ H Q->Ï (Ô X.prog X.w) X.A (isTrue e X.env (eval e X.env)) (TP X pins σ Q) X.xe s
def PW(X:Cx)(e:Í)(t:TT):Prop :=
 ∀ (whole:Sem Ã) (pins:List (Ç × Obj)) (s:Å) (σ:St) (H:Hp) (Q:Bool->Hp->Prop),Inv X pins σ H s->t σ H Q->Ï (Ô X.prog X.w) X.A (isTrue e X.env whole) (TP X pins σ Q) X.xe s
theorem PW.pt{X:Cx}{e:Í}{t:TT}(h:PW X e t):PT X e t:=h _
def PA(X:Cx)(es:List Í)(t:TA):Prop :=
 ∀ (pos:Pos) (pins:List (Ç × Obj)) (s:Å) (σ:St) (H:Hp) (Q:List V->Hp->Prop),Inv X pins σ H s->t σ H Q->Ï (Ô X.prog X.w) X.A (spliced (Ò0 pos (ù es X.env))) (AP X pins σ Q) X.xe s
def PS(X:Cx)(st:Å6)(t:TS):Prop :=
 ∀ (pins:List (Ç × Obj)) (s:Å) (σ:St) (H:Hp) (D:Ends),Inv X pins σ H s->t D σ H->Ï (Ô X.prog X.w) X.A (exec st X.env) (SP X pins D) X.xe s
def PSs(X:Cx)(st:List Å6)(t:TS):Prop :=
 ∀ (pins:List (Ç × Obj)) (s:Å) (σ:St) (H:Hp) (D:Ends),Inv X pins σ H s->t D σ H->Ï (Ô X.prog X.w) X.A (execs st X.env) (SP X pins D) X.xe s
theorem thn{α:Type}{t:Sem α}{Q Q':α->Å->Prop}{M:Model}{A:þ}{E:Ã->Å->Prop}{s:Å}(h:Ï M A t Q E s)(hQ:∀ a s,Q a s->Q' a s):Ï M A t Q' E s:=Ã8 h hQ λ_ _ x=>x
section
variable {X:Cx}
def x22(i:Nat):TE:=λσ H Q=>∃ v,σ[i]?=some (some v)/\Q v H
def tC(v:V):TE:=λ_ H Q=>Q v H
theorem z10{i:Nat}{x:Str}{pos:Pos}(hN:X.N[i]?=some x)(hv:Vis X.env.scope x)(hd:(x == ("__debug__":Str))=false:=by decide)(hcd:(x == ("__classdict__":Str))=false:=by decide):PE X (.Name x pos) (x22 i):=by
 intro pins s σ H Q I h;obtain⟨v,e,h⟩:=h;obtain⟨m,hn,hl⟩:=I.loc;obtain⟨u,r,l⟩:=hl i x v hN e hv;have fin:EP X pins σ Q u s:=⟨v,H,I,r,h⟩;rcases l with ⟨hk,hm⟩ | ⟨hk,c,hc,hcell⟩
 ·exact wpAny_Name (wpAny_loadName_local I.ok.kind hk hn hm fin) hd
 ·rcases hk with hk | hk
  ·exact wpAny_Name (wpAny_loadName_cell I.ok.kind hk hc hcell fin) hd
  ·exact wpAny_Name (wpAny_loadName_free I.ok.kind hk hc hcell fin hcd) hd
theorem W40{i j pos}:PE X (.Constant (.int i) j pos) (tC (.int i)):=λ_ _ _ H _ I h=>wpAny_Constant_int ⟨.int i,H,I.tok _,⟨_,rfl⟩,h⟩
theorem l42{b j pos}:PE X (.Constant (.bool b) j pos) (tC (.bl b)):=λ_ _ _ H _ I h=>Constant_bool ⟨.bl b,H,I,rfl,h⟩
theorem U91{j pos}:PE X (.Constant .none j pos) (tC .non):=λ_ _ _ H _ I h=>Constant_none ⟨.non,H,I,rfl,h⟩
theorem C81{x j pos}:PE X (.Constant (.str x) j pos) (tC (.str x)):=λ_ _ _ H _ I h=>Calls.Constant_str ⟨.str x,H,I.tok _,⟨_,rfl⟩,h⟩
def Gl(X:Cx)(x:Str):Prop:=X.env.kindOf x=some .globalImplicit
theorem R00{E:Ã->Å->Prop}{pins:List (Ç × Obj)}{s:Å}{σ:St}{H:Hp}{x:Str}{u:Ã}{pos:Pos}{Q:Ã->Å->Prop}(I:Inv X pins σ H s)(hg:Gl X x)(hm:X.mg x=some u)(h:Q u s)
  (hd:(x == ("__debug__":Str))=false:=by decide):Ï (Ô X.prog X.w) X.A (eval (.Name x pos) X.env) Q E s :=
 Ù9 I.ok.kind hg (Calls.loadGlobal_global (by rw[I.ok.glob];exact I.mod.glob.keeps I.bk) hm h) hd
theorem r40{E:Ã->Å->Prop}{pins:List (Ç × Obj)}{s:Å}{σ:St}{H:Hp}{x:Str}{u:Ã}{pos:Pos}{Q:Ã->Å->Prop}(I:Inv X pins σ H s)(hg:Gl X x)(hm:X.mg x=none)(hv:ë x=some u)(h:Q u s)
  (hn:x≠"__name__":=by decide) (hd:(x == ("__debug__":Str))=false:=by decide):Ï (Ô X.prog X.w) X.A (eval (.Name x pos) X.env) Q E s:=by
 obtain⟨mb,h1,h2⟩:=I.mod.blt;exact Ù9 I.ok.kind hg (Calls.loadGlobal_builtin (by rw[I.ok.glob];exact I.mod.glob.keeps I.bk) hm (by rw[I.ok.blt];exact h1.keeps I.bk) ((h2 x hn).trans hv) h) hd
theorem I01{x:Str}{v:V}{u:Ã}{pos:Pos}(hg:Gl X x)(hm:X.mg x=some u)(r:RelV v u)(hd:(x == ("__debug__":Str))=false:=by decide):PE X (.Name x pos) (tC v) :=
 λ_ _ _ H _ I h=>R00 I hg hm ⟨v,H,I,r,h⟩ hd
theorem R10{x:Str}{v:V}{u:Ã}{pos:Pos}(hg:Gl X x)(hm:X.mg x=none)(hv:ë x=some u)(r:RelV v u)(hn:x≠"__name__":=by decide)(hd:(x == ("__debug__":Str))=false:=by decide):PE X (.Name x pos) (tC v) :=
 λ_ _ _ H _ I h=>r40 I hg hm hv ⟨v,H,I,r,h⟩ hn hd
variable {a b:Í}{ta tb:TE}{pos:Pos}
def tB(t:TE):TT:=λσ H Q=>t σ H λx H1=>∃ c,x=.bl c/\Q c H1
theorem V01{e:Í}{t:TE}(h:PE X e t)(he:∀ whole,isTrue e X.env whole=(do let v ← whole;standAt e.pos;holding [v] (truthy v)):=by intro _;rfl):PT X e (tB t):=by
 intro pins s σ H Q I hw;refine isTrue_plain (thn (h pins s σ H _ I hw) λv s1 ⟨x,H1,I1,r1,q1⟩=>?_) (he _);obtain⟨d,rfl,q⟩:=q1;cases r1;exact Á0 ⟨H1,I1,q⟩
variable {tA tB':TT}{rest:List Í}
def A42(t u:TT):TT:=λσ H Q=>t σ H λc H1=>if c=true then u σ H1 Q else Q false H1
def tOr(t u:TT):TT:=λσ H Q=>t σ H λc H1=>if c=true then Q true H1 else u σ H1 Q
def A52(t:TT):TT:=λσ H Q=>t σ H λc H1=>Q (!c) H1
theorem I11(ha:PT X a tA):PW X (.BoolOp .And [a] pos) tA:=by
 intro wh pins s σ H Q I h;refine isTrue_and (thn (ha pins s σ H Q I h) λc s1 e=>?_);cases c with
 |true=>exact isTrue_and_nil e|false=>exact e
theorem V11(ha:PT X a tA):PW X (.BoolOp .Or [a] pos) tA:=by
 intro wh pins s σ H Q I h;refine isTrue_or (thn (ha pins s σ H Q I h) λc s1 e=>?_);cases c with
 |false=>exact isTrue_or_nil e|true=>exact e
theorem V21(ha:PT X a tA)(hb:PW X (.BoolOp .And (b::rest) pos) tB'):PW X (.BoolOp .And (a::b::rest) pos) (A42 tA tB'):=by
 intro wh pins s σ H Q I h;refine isTrue_and (thn (ha pins s σ H _ I h) λc s1 ⟨H1,I1,q1⟩=>?_);cases c with
 |true=>exact hb wh pins s1 σ H1 Q I1 q1|false=>exact⟨H1,I1,q1⟩
theorem l52(ha:PT X a tA)(hb:PW X (.BoolOp .Or (b::rest) pos) tB'):PW X (.BoolOp .Or (a::b::rest) pos) (tOr tA tB'):=by
 intro wh pins s σ H Q I h;refine isTrue_or (thn (ha pins s σ H _ I h) λc s1 ⟨H1,I1,q1⟩=>?_);cases c with
 |true=>exact⟨H1,I1,q1⟩|false=>exact hb wh pins s1 σ H1 Q I1 q1
theorem V31(ha:PT X a tA):PT X (.UnaryOp .Not a pos) (A52 tA):=by
 intro pins s σ H Q I h;exact isTrue_not (ha pins s σ H (λc H1=>Q (!c) H1) I h)
def l62(ta tb:TE):TE:=λσ H Q=>ta σ H λx H1=>∃ c,x=.bl c/\if c=true then tb σ H1 Q else Q (.bl false) H1
def A62(ta tb:TE):TE:=λσ H Q=>ta σ H λx H1=>∃ c,x=.bl c/\if c=true then Q (.bl true) H1 else tb σ H1 Q
def l72(ta:TE):TE:=λσ H Q=>ta σ H λx H1=>∃ c,x=.bl c/\Q (.bl (!c)) H1
theorem V41{op}{t:TE}(h:PE X a t):PE X (.BoolOp op [a] pos) t:=λpins s σ H Q I hw=>BoolOp_one (h pins s σ H Q I hw)
theorem V51(ha:PE X a ta)(hb:PE X (.BoolOp .And (b::rest) pos) tb):PE X (.BoolOp .And (a::b::rest) pos) (l62 ta tb):=by
 intro pins s σ H Q I h;refine BoolOp_and (thn (ha pins s σ H _ I h) λv s1 ⟨x,H1,I1,r1,q1⟩=>?_);obtain⟨c,rfl,q1⟩:=q1;cases r1;refine Á0 ?_;cases c with
 |true=>exact hb pins s1 σ H1 Q I1 q1|false=>exact⟨.bl false,H1,I1,rfl,q1⟩
theorem l82(ha:PE X a ta)(hb:PE X (.BoolOp .Or (b::rest) pos) tb):PE X (.BoolOp .Or (a::b::rest) pos) (A62 ta tb):=by
 intro pins s σ H Q I h;refine BoolOp_or (thn (ha pins s σ H _ I h) λv s1 ⟨x,H1,I1,r1,q1⟩=>?_);obtain⟨c,rfl,q1⟩:=q1;cases r1;refine Á0 ?_;cases c with
 |false=>exact hb pins s1 σ H1 Q I1 q1|true=>exact⟨.bl true,H1,I1,rfl,q1⟩
theorem V61(ha:PE X a ta):PE X (.UnaryOp .Not a pos) (l72 ta):=by
 intro pins s σ H Q I h;refine UnaryOp_ (thn (ha pins s σ H _ I h) λv s1 ⟨x,H1,I1,r1,q1⟩=>?_);obtain⟨c,rfl,q1⟩:=q1;cases r1;exact not_of (Á0 ⟨.bl (!c),H1,I1,rfl,q1⟩)
def tIf(t:TT)(ta tb:TE):TE:=λσ H Q=>t σ H λc H1=>if c=true then ta σ H1 Q else tb σ H1 Q
theorem u51{c:Í}(hc:PT X c tA)(ha:PE X a ta)(hb:PE X b tb):PE X (.IfExp c a b pos) (tIf tA ta tb):=by
 intro pins s σ H Q I h;refine wpAny_IfExp (thn (hc pins s σ H _ I h) λd s1 ⟨H1,I1,q1⟩=>?_);cases d with
 |true=>exact ha pins s1 σ H1 Q I1 q1|false=>exact hb pins s1 σ H1 Q I1 q1
end
def SqL(K:Â)(H:Hp)(a:Ç)(xs:List V):Prop :=
 Rd H a (.lst xs) ∨
  ∃ (o:Obj) (its:Array Ã) (n:Nat),K.lookup a=some o/\o.cls=.type "list"/\o.dict=none/\o.data=.seq its n/\its.size<=sizeLine/\Vals xs its.toList
def SqT(K:Â)(H:Hp)(a:Ç)(xs:List V):Prop :=
 Rd H a (.tup xs) ∨
  ∃ (o:Obj) (its:Array Ã) (n:Nat),K.lookup a=some o/\o.cls=.type "tuple"/\o.data=.seq its n/\its.size<=sizeLine/\Vals xs its.toList
def A72:Ã->Option V
 |.none=>some .non|.bool b=>some (.bl b)|.int i _=>some (.int i)|.str x _=>some (.str x)|.bytes b _=>some (.byt b)|.float b _=>some (.flt b)|.ref a=>some (.ref a)|.type n=>some (.ty n)|_=>none
theorem RelV.abs{x:V}{u:Ã}(r:RelV x u):A72 u=some x:=by
 cases x with
 |non=>cases r;rfl
 |bl _=>cases r;rfl
 |int _=>obtain⟨t,rfl⟩:=r;rfl
 |str _=>obtain⟨t,rfl⟩:=r;rfl
 |byt _=>obtain⟨t,rfl⟩:=r;rfl
 |flt _=>obtain⟨t,rfl⟩:=r;rfl
 |ref _=>cases r;rfl
 |ty _=>cases r;rfl
theorem RelV.inj{x y:V}{u:Ã}(r:RelV x u)(q:RelV y u):x=y:=ý (r.abs.symm.trans q.abs)
theorem Vals.inj:∀ {xs ys:List V}{us:List Ã},Vals xs us->Vals ys us->xs=ys
 |_,_,_,.nil,.nil=>rfl|_,_,_,.cons r t,.cons r' t'=>by rw[r.inj r',Vals.inj t t']
section
variable {X:Cx}{pins:List (Ç × Obj)}{σ:St}{H:Hp}{s:Å}{a:Ç}{xs ys:List V}
theorem SqL.of{K:Â}(h:H a=some (.lst xs)):SqL K H a xs:=.inl (.inl h)
theorem SqT.of{K:Â}(h:H a=some (.tup xs)):SqT K H a xs:=.inl (.inl h)
theorem Inv.list(I:Inv X pins σ H s)(h:SqL X.K H a xs):∃ its:List Ã,Vals xs its/\PlainL s.heap a its.toArray/\xs.length<=sizeLine:=by
 rcases h with h | ⟨o,its,n,hk,hc,hd,hs,hz,r⟩
 ·obtain⟨z,its,n,r,e⟩:=h.ok I.hok;exact⟨its,r,⟨_,n,e,rfl,rfl,rfl⟩,z⟩
 ·refine⟨its.toList,r,⟨o,n,I.kIn a o hk,hc,hd,by simpa using hs⟩,?_⟩
  have e:=r.length;simp only[È0] at e;omega
theorem Inv.tuple(I:Inv X pins σ H s)(h:SqT X.K H a xs):∃ its:List Ã,Vals xs its/\Ê5 s.heap a its.toArray/\xs.length<=sizeLine:=by
 rcases h with h | ⟨o,its,n,hk,hc,hs,hz,r⟩
 ·obtain⟨z,its,r,p⟩:=h.ok I.hok;exact⟨its,r,p,z⟩
 ·refine⟨its.toList,r,⟨o,I.kIn a o hk,hc,n,by simpa using hs⟩,?_⟩
  have e:=r.length;simp only[È0] at e;omega
theorem Inv.W50(I:Inv X pins σ H s)(h:SqL X.K H a xs)(h':SqL X.K H a ys):xs=ys:=by
 obtain⟨its,r,⟨o,n,e,_,_,d⟩,_⟩:=I.list h;obtain⟨its',r',⟨o',n',e',_,_,d'⟩,_⟩:=I.list h';rw[e] at e';cases e';rw[d] at d';injection d' with d1 _;have:its=its':=by simpa using congrArg toList d1
 subst this;exact r.inj r'
theorem Inv.L20(I:Inv X pins σ H s)(h:SqT X.K H a xs)(h':SqT X.K H a ys):xs=ys:=by
 obtain⟨its,r,⟨o,e,_,n,d⟩,_⟩:=I.tuple h;obtain⟨its',r',⟨o',e',_,n',d'⟩,_⟩:=I.tuple h';rw[e] at e';cases e';rw[d] at d';injection d' with d1 _;have:its=its':=by simpa using congrArg toList d1
 subst this;exact r.inj r'
end
section
variable {X:Cx}{st:Å6}{rest:List Å6}{t u:TS}{e:Í}{te:TE}{pos:Pos}
def l92:TS:=λD σ H=>D.nx σ H
def A82(t u:TS):TS:=λD σ H=>t { D with nx:=u D } σ H
theorem I21:PSs X [] l92:=λ_ _ σ H _ I h=>Û7 ⟨σ,H,I,h⟩
theorem u61(h1:PS X st t)(h2:PSs X rest u):PSs X (st::rest) (A82 t u):=by
 intro pins s σ H D I h;refine wpAny_execs_cons (thn (h1 pins s σ H { D with nx:=u D } I h) λf s1 q=>?_);cases f with
 |next =>
  obtain⟨σ',H',I',q⟩:=q;exact h2 pins s1 σ' H' D I' q
 |ret v=>exact q|brk=>exact q|cont=>exact q
theorem Inv.quiet{pins:List (Ç × Obj)}{σ:St}{H:Hp}{s:Å}(I:Inv X pins σ H s):interactive X.env=false:=by simp[interactive,I.ok.kind]
def m02(te:TE):TS:=λD σ H=>te σ H λ_ H1=>D.nx σ H1
theorem f91(he:PE X e te)(hs:Ñ0 e none pos.line X.env=pure false:=by rfl):PS X (.Expr e pos) (m02 te):=by
 intro pins s σ H D I h;exact wpAny_Expr_any (thn (he pins s σ H _ I h) λv s1 ⟨x,H1,I1,r1,q1⟩=>⟨σ,H1,I1,q1⟩) I.quiet hs
def A92(te:TE):TS:=λD σ H=>te σ H D.rt
theorem C91(he:PE X e te):PS X (.Return (some e) pos) (A92 te):=by
 intro pins s σ H D I h;exact wpAny_Return_some (thn (he pins s σ H _ I h) λv s1 ⟨x,H1,I1,r1,q1⟩=>⟨x,σ,H1,I1,r1,q1⟩)
def m12:TS:=λD _ H=>D.rt .non H
theorem I31:PS X (.Return none pos) m12:=λ_ _ σ H _ I h=>wpAny_Return_none ⟨.non,σ,H,I,rfl,h⟩
def B02(c:TT)(t u:TS):TS:=λD σ H=>c σ H λb H1=>if b=true then t D σ H1 else u D σ H1
theorem m22{c:Í}{a b:List Å6}{tc:TT}(hc:PT X c tc)(ha:PSs X a t)(hb:PSs X b u):PS X (.If c a b pos) (B02 tc t u):=by
 intro pins s σ H D I h;refine wpAny_If (thn (hc pins s σ H _ I h) λd s1 ⟨H1,I1,q1⟩=>?_);cases d with
 |true=>exact ha pins s1 σ H1 D I1 q1|false=>exact hb pins s1 σ H1 D I1 q1
end
abbrev TG:=V->St->Hp->(St->Hp->Prop)->Prop
abbrev TGs:=List V->St->Hp->(St->Hp->Prop)->Prop
def PG(X:Cx)(target:Í)(t:TG):Prop :=
 ∀ (pins:List (Ç × Obj)) (s:Å) (σ:St) (H:Hp) (v:V) (u:Ã) (Q:St->Hp->Prop),Inv X pins σ H s->RelV v u->t v σ H Q ->
  Ï (Ô X.prog X.w) X.A (Ô5 target X.env u) (λ_ s'=>∃ σ' H',Inv X pins σ' H' s'/\Q σ' H') X.xe s
def PGs(X:Cx)(ts:List Í)(t:TGs):Prop :=
 ∀ (pins:List (Ç × Obj)) (s:Å) (σ:St) (H:Hp) (vs:List V) (us:List Ã) (Q:St->Hp->Prop),Inv X pins σ H s->Vals vs us->t vs σ H Q ->
  Ï (Ô X.prog X.w) X.A (Ï8 ((Ç6 ts X.env).map (·.2)) us) (λ_ s'=>∃ σ' H',Inv X pins σ' H' s'/\Q σ' H') X.xe s
abbrev V71:=V->V->V->Hp->(Hp->Prop)->Prop
def m32(X:Cx)(t:V71):Prop :=
 ∀ (pins:List (Ç × Obj)) (s:Å) (σ:St) (H:Hp) (o i v:V) (ov iv u:Ã) (Q:Hp->Prop),Inv X pins σ H s->RelV o ov->RelV i iv->RelV v u->t o i v H Q ->
  Ï (Ô X.prog X.w) X.A (setItem ov iv u) (λ_ s'=>∃ H',Inv X pins σ H' s'/\Q H') X.xe s
abbrev TIp:=V->V->Hp->VK->Prop
def PIp(X:Cx)(op:Ë6)(t:TIp):Prop :=
 ∀ (pins:List (Ç × Obj)) (s:Å) (σ:St) (H:Hp) (x y:V) (v u:Ã) (Q:VK),Inv X pins σ H s->RelV x v->RelV y u->t x y H Q ->
  Ï (Ô X.prog X.w) X.A (inplaceOp op v u) (EP X pins σ Q) X.xe s
section
variable {X:Cx}{pos:Pos}
def c11(i:Nat):TG:=λv σ H Q=>Q (σ.set i (some v)) H
theorem I41{i:Nat}{x:Str}(hN:X.N.Nodup)(hi:X.N[i]?=some x)(hx:Loc X.env.scope x)(hf:X.fn x=true∨X.env.scope.names.lookup x=some .local:=by first | exact .inl rfl | exact .inr rfl | assumption):PG X (.Name x pos) (c11 i):=by
 intro pins s σ H v u Q I r h;exact wpAny_assign_Name (i00 I hN hi hx r (λs' I'=>⟨_,H,I',h⟩) hf)
def x32:TGs:=λvs σ H Q=>vs=[]/\Q σ H
def V81(t:TG)(u:TGs):TGs:=λvs σ H Q=>∃ v r,vs=v::r/\t v σ H λσ' H'=>u r σ' H' Q
theorem I51:PGs X [] x32:=by
 intro pins s σ H vs us Q I r h;obtain⟨e,h⟩:=h;subst e;cases r;exact Ù4 ⟨σ,H,I,h⟩
theorem u71{e:Í}{es:List Í}{t:TG}{u:TGs}(h1:PG X e t)(h2:PGs X es u)
  (hs:(Ç6 (e::es) X.env).map (·.2)=Ô5 e X.env::(Ç6 es X.env).map (·.2):=by rfl):PGs X (e::es) (V81 t u):=by
 intro pins s σ H vs us Q I r h;obtain⟨v,vr,e1,h⟩:=h;subst e1;cases r with
 |cons r rr =>
  rw[hs];refine Æ4 (thn (h1 pins s σ H _ _ _ I r h) λ_ s1 ⟨σ1,H1,I1,q1⟩=>?_);exact h2 pins s1 σ1 H1 _ _ Q I1 rr q1
def x42(K:Â)(n:Nat)(t:TGs):TG:=λv σ H Q=>∃ a xs,v=.ref a/\SqT K H a xs/\xs.length=n/\t xs σ H Q
theorem V91{es:List Í}{k:Nat}{t:TGs}{n:Nat}(hc:X.calm=true)(h:PGs X es t)
  (hn:(Ç6 es X.env).length=n:=by rfl) (hst:(Ç6 es X.env).findIdx? (·.1)=none:=by rfl):PG X (.Tuple es k pos) (x42 X.K n t):=by
 intro pins s σ H v u Q I r hw;obtain⟨a,xs,e1,hq,hl,hw⟩:=hw;subst e1;cases r;obtain⟨its,rv,ht,hz⟩:=I.tuple hq;refine assign_Tuple_tuple (I.ok.hd hc) ht (by simp[hn,← hl,rv.length]) hst λh' hx=>?_
 have I1:Inv X pins σ H { s with heap:=h' }:=I.kept (t':=s.toks) λb o e=>hx b o (ã (Ý e)) e;exact h pins _ σ H xs _ Q I1 (by simpa using rv) hw
def B12(to ti:TE)(t:V71):TG:=λv σ H Q=>to σ H λo H1=>ti σ H1 λi H2=>t o i v H2 λH3=>Q σ H3
theorem W01{o i:Í}{to ti:TE}{t:V71}(ho:PE X o to)(hi:PE X i ti)(hs:m32 X t)
  (ha:∀ v,Ô5 (.Subscript o i pos) X.env v=(do
   let ov ← holding [v] (eval o X.env)
   let iv ← holding [v,ov] (eval i X.env)
   standAt pos
   holding [v,ov,iv] (setItem ov iv v)
   release [v,ov,iv] []):=by intro _;rfl):PG X (.Subscript o i pos) (B12 to ti t):=by
 intro pins s σ H v u Q I r h;rw[ha];refine À (Æ6 (thn (ho pins s σ H _ I h) λov s1 ⟨x,H1,I1,r1,q1⟩=>?_));refine À (Æ6 (thn (hi pins s1 σ H1 _ I1 q1) λiv s2 ⟨y,H2,I2,r2,q2⟩=>?_));refine À (Ï7 (À (Æ6 (thn (hs pins s2 σ H2 x y v ov iv u _ I2 r1 r2 r q2) λ_ s3 ⟨H3,I3,q3⟩=>?_))));exact wpAny_release ⟨σ,H3,I3,q3⟩
def W11(te:TE)(g:TG):TS:=λD σ H=>te σ H λx H1=>g x σ H1 D.nx
theorem D01{tg e:Í}{te:TE}{g:TG}(he:PE X e te)(hg:PG X tg g)(hs:swapsWithSole [tg] e pos.line X.env=pure false:=by rfl)(hw:À1 [tg] e X.env=pure none:=by rfl)
  (h1:(Ç6 [tg] X.env).map (·.2)=[Ô5 tg X.env]:=by rfl):PS X (.Assign [tg] e pos) (W11 te g):=by
 intro pins s σ H D I h;refine wpAny_Assign_stores (thn (he pins s σ H _ I h) λv s1 ⟨x,H1,I1,r1,q1⟩=>?_) hs hw;rw[h1];exact thn (hg pins s1 σ H1 x v _ I1 r1 q1) λ_ s2 q=>q
theorem g01{i:Nat}{x:Str}{e:Í}{te:TE}{pos':Pos}(hN:X.N.Nodup)(hi:X.N[i]?=some x)(hx:Loc X.env.scope x)(he:PE X e te)(hs:Ñ0 e (some (.Name x pos')) pos.line X.env=pure false:=by rfl)(hf:X.fn x=true∨X.env.scope.names.lookup x=some .local:=by first | exact .inl rfl | exact .inr rfl | assumption) :
  PS X (.Assign [.Name x pos'] e pos) (W11 te (c11 i)):=by
 intro pins s σ H D I h;refine wpAny_Assign_Name (thn (he pins s σ H _ I h) λv s1 ⟨y,H1,I1,r1,q1⟩=>?_) hs;exact i00 I1 hN hi hx r1 (λs2 I2=>⟨_,H1,I2,q1⟩) hf
def B22(i j:Nat)(ta:TA):TS:=λD σ H=>ta σ H λvs H1=>∃ v w,vs=[v,w]/\D.nx ((σ.set i (some v)).set j (some w)) H1
theorem W21{i j:Nat}{x y:Str}{a b:Í}{ta:TA}{px py pt:Pos}{kt k2 pt2}(hc:X.calm=true)(hN:X.N.Nodup)(hi:X.N[i]?=some x)(hj:X.N[j]?=some y)(hij:i≠j)
  (hx:X.env.scope.names.lookup x=some .local) (hy:X.env.scope.names.lookup y=some .local) (ha:PA X [a,b] ta)
  (hw:À1 [.Tuple [.Name x px,.Name y py] kt pt] (.Tuple [a,b] k2 pt2) X.env=pure (some [x,y]))
  (hs:swapsWithSole [.Tuple [.Name x px,.Name y py] kt pt] (.Tuple [a,b] k2 pt2) pos.line X.env=pure false:=by rfl) :
  PS X (.Assign [.Tuple [.Name x px,.Name y py] kt pt] (.Tuple [a,b] k2 pt2) pos) (B22 i j ta):=by
 intro pins s σ H D I h;rw[exec_Assign_arm];refine À (Ï7 ?_);rw[hs];refine À (Æ ?_);rw[if_neg (-0)]
 refine À (Tuple_ (thn (ha _ pins s σ H _ I h) λus s1 ⟨vs,H1,I1,r1,q1⟩=>?_));obtain⟨v,w,e1,q1⟩:=q1;subst e1;obtain⟨u1,u2,rfl,rv,rw'⟩:∃ u1 u2,us=[u1,u2]/\RelV v u1/\RelV w u2:=by
  cases r1 with
  |cons p q =>
   cases q with
   |cons p' q' =>
    cases q';exact⟨_,_,rfl,p,p'⟩
 refine å ?_ (by show 2<=sizeLine;decide)
 have I2:Inv X pins σ H1 { s1 with heap:=s1.heap.push { cls:=.type "tuple",data:=.seq [u1,u2].toArray } }:=I1.kept (t':=s1.toks) λb o e=>Ä _ e;rw[hw];refine À (Æ ?_);show Ï (Ô X.prog X.w) X.A (do rule "assign.swapped-stores";let items ← unpackItems (.ref s1.heap.objs.size) 2 none;Ï8 [λv=>Ë3 X.env y v,λv=>Ë3 X.env x v] items.reverse;pure Flow.next) _ _ _;refine À (Ê7 (À (unpackItems_tuple (items:=#[u1,u2]) (I.ok.hd hc) (Ê5.new s1.heap _) λh' hx'=>?_)));have I3:=I2.kept (h':=h') (t':=s1.toks) λb o e=>hx' b o (ã (Ý e)) e;show Ï _ _ (Ï8 [λv=>Ë3 X.env y v,λv=>Ë3 X.env x v] [u2,u1] >>= λ_=>pure Flow.next) _ _ _;refine À (Æ4 (Í5 (i00 I3 hN hj (.inl hy) rw' (λs2 I4=>?_) (.inr hy))));refine Æ4 (Í5 (i00 I4 hN hi (.inl hx) rv (λs3 I5=>Ù4 (Æ ?_)) (.inr hx)));rw[set_comm _ _ (À4 hij)] at I5;exact⟨_,H1,I5,q1⟩
def B32(i:Nat)(te:TE)(ti:TIp):TS:=λD σ H=>∃ x,σ[i]?=some (some x)/\te σ H λy H1=>ti x y H1 λz H2=>D.nx (σ.set i (some z)) H2
theorem W31{i:Nat}{x:Str}{e:Í}{te:TE}{op:Ë6}{ti:TIp}{pos':Pos}(hN:X.N.Nodup)(hi:X.N[i]?=some x)(hx:Loc X.env.scope x)(he:PE X e te)(ho:PIp X op ti)(hf:X.fn x=true∨X.env.scope.names.lookup x=some .local:=by first | exact .inl rfl | exact .inr rfl | assumption) :
  PS X (.AugAssign (.Name x pos') op e pos) (B32 i te ti):=by
 intro pins s σ H D I h;obtain⟨v,e1,h⟩:=h;obtain⟨m,hn,hl⟩:=I.loc;have vis:Vis X.env.scope x:=by rcases hx with k | k;exact .inl k;exact .inr (.inl k)
 obtain⟨u,r,l⟩:=hl i x v hi e1 vis;refine wpAny_AugAssign_Name ?_;have go:Ï (Ô X.prog X.w) X.A (eval e X.env) (λw s₂=>Ï (Ô X.prog X.w) X.A (inplaceOp op u w) (λr s₃=>Ï (Ô X.prog X.w) X.A (storeName X.env x r) (λ_=>SP X pins D .next) X.xe s₃) X.xe s₂) X.xe s:=by
  refine thn (he pins s σ H _ I h) λw s1 ⟨y,H1,I1,r1,q1⟩=>?_;refine thn (ho pins s1 σ H1 v y u w _ I1 r r1 q1) λz s2 ⟨zv,H2,I2,r2,q2⟩=>?_;exact i00 I2 hN hi hx r2 (λs3 I3=>⟨_,H2,I3,q2⟩) hf
 rcases l with ⟨hk,hm⟩ | ⟨hk,c,hc,hcell⟩
 ·exact wpAny_loadName_local I.ok.kind hk hn hm go
 ·rcases hk with hk | hk
  ·exact wpAny_loadName_cell I.ok.kind hk hc hcell go
  ·rcases hx with k | k
   ·have:X.env.scope.names.lookup x=some .free:=hk;rw[k] at this;cases this
   ·have:X.env.scope.names.lookup x=some .free:=hk;rw[k] at this;cases this
def m42(to ti te:TE)(tget:V->V->Hp->VK->Prop)(tip:TIp)(tset:V71):TS:=λD σ H=>to σ H λo H1=>ti σ H1 λi H2=>tget o i H2 λx H3=>te σ H3 λy H4=>tip x y H4 λz H5=>tset o i z H5 λH6=>D.nx σ H6
def x52(X:Cx)(t:V->V->Hp->VK->Prop):Prop :=
 ∀ (pins:List (Ç × Obj)) (s:Å) (σ:St) (H:Hp) (o i:V) (ov iv:Ã) (Q:VK),Inv X pins σ H s->RelV o ov->RelV i iv->t o i H Q ->
  Ï (Ô X.prog X.w) X.A (Ï3 ov iv) (EP X pins σ Q) X.xe s
theorem I61{o i e:Í}{to ti te:TE}{tget:V->V->Hp->VK->Prop}{tip:TIp}{tset:V71}{op:Ë6}{tpos:Pos}(ho:PE X o to)(hi:PE X i ti)(hg:x52 X tget)(he:PE X e te)(hp:PIp X op tip)(hs:m32 X tset)
  (ha:∀ ov iv new,augStore i ov iv new=(do holding [new,ov,iv] (setItem ov iv new);release [new,ov,iv] [];pure .next):=by intros;rfl):PS X (.AugAssign (.Subscript o i tpos) op e pos) (m42 to ti te tget tip tset):=by
 intro pins s σ H D I h;refine wpAny_AugAssign_SubscriptAny (thn (ho pins s σ H _ I h) λov s1 ⟨x1,H1,I1,r1,q1⟩=>?_) ha;refine thn (hi pins s1 σ H1 _ I1 q1) λiv s2 ⟨x2,H2,I2,r2,q2⟩=>?_;refine thn (hg pins s2 σ H2 x1 x2 ov iv _ I2 r1 r2 q2) λold s3 ⟨x3,H3,I3,r3,q3⟩=>?_;refine thn (he pins s3 σ H3 _ I3 q3) λv s4 ⟨x4,H4,I4,r4,q4⟩=>?_;refine thn (hp pins s4 σ H4 x3 x4 old v _ I4 r3 r4 q4) λnew s5 ⟨x5,H5,I5,r5,q5⟩=>?_;exact thn (hs pins s5 σ H5 x1 x2 x5 ov iv new _ I5 r1 r2 r5 q5) λ_ s6 ⟨H6,I6,q6⟩=>⟨σ,H6,I6,q6⟩
def ipI(f:Int->Int->Int):TIp:=λx y H Q=>∃ i j,x=.int i/\y=.int j/\Q (.int (f i j)) H
theorem W41:PIp X .Add (ipI λi j=>i + j):=by
 intro pins s σ H x y v u Q I r1 r2 h;obtain⟨i,j,e1,e2,q⟩:=h;subst e1;subst e2;obtain⟨t,rfl⟩:=r1;obtain⟨t',rfl⟩:=r2;exact iadd_int ⟨.int _,H,I.tok _,⟨_,rfl⟩,q⟩
def W51(c:TT)(tb:TS):TS:=λD σ H=>∃ W:Nat->St->Hp->Prop,(∃ m,W m σ H)/\∀ m σ H,W m σ H ->
 c σ H λb H1=>if b=true then ∃ N:St->Hp->Prop,(∀ σ' H',N σ' H'->∃ m',m' < m/\W m' σ' H')/\tb { D with nx:=N,ct:=N,bk:=D.nx } σ H1 else D.nx σ H1
theorem u81{c:Í}{body:List Å6}{tc:TT}{tb:TS}(hp:PassesOwn (Ô X.prog X.w) X.A X.env X.xe)(hc:PT X c tc)(hb:PSs X body tb):PS X (.While c body [] pos) (W51 tc tb):=by
 intro pins s σ H D I h;obtain⟨W,⟨m0,w0⟩,turn⟩:=h;refine wpAny_While (codeAny_whileLoop (λn s'=>∃ σ' H',Inv X pins σ' H' s'/\W n σ' H') ?_ m0 ⟨σ,H,I,w0⟩);rintro n s1 ⟨σ1,H1,I1,w1⟩;refine Æ5 hp (thn (hc pins s1 σ1 H1 _ I1 (turn n σ1 H1 w1)) λb s2 ⟨H2,I2,q2⟩=>?_);cases b with
 |true =>
  obtain⟨N,hN,q2⟩:=q2;rw[if_pos rfl];refine Æ5 hp (thn (hb pins s2 σ1 H2 _ I2 q2) λf s3 q3=>?_);cases f with
  |next =>
   obtain⟨σ3,H3,I3,n3⟩:=q3;obtain⟨m',hm,w3⟩:=hN σ3 H3 n3;exact⟨m',hm,σ3,H3,I3,w3⟩
  |cont =>
   obtain⟨σ3,H3,I3,n3⟩:=q3;obtain⟨m',hm,w3⟩:=hN σ3 H3 n3;exact⟨m',hm,σ3,H3,I3,w3⟩
  |brk=>exact q3|ret v=>exact q3
 |false =>
  rw[if_neg Ñ];exact Û7 ⟨σ1,H2,I2,q2⟩
end
structure It where
 go:Nat->Hp->Prop
 yld:Nat->Hp->V->Hp->Prop
 stop:Nat->Hp->Prop
def c21(X:Cx)(pins:List (Ç × Obj))(H:Hp)(b:Ç):Prop :=
 H b=none/\b≠X.env.locals/\b ∉ X.fs/\(b∈X.ex∨X.s₀.heap.objs.size<=b)/\(∀ x c,X.env.cells.lookup x=some c->c≠b)/\∀ p∈X.pn++pins,p.1≠b
theorem Inv.f51{X:Cx}{pins:List (Ç × Obj)}{σ:St}{H H':Hp}{s:Å}{b:Ç}(I:Inv X pins σ H s)(hb:s.heap.objs.size<=b)(hn:H' b=none):c21 X pins H' b:=by
 refine⟨hn,Ò3 (Ù I.lt hb),I.A32 hb,.inr (Ò I.sz hb),λx c e z=>?_,λp hp z=>?_⟩
 ·obtain⟨v,q⟩:=I.cell x c e;exact absurd (Ù q.lt (by rw[z];exact hb)) (À6 _)
 ·exact absurd (Ù (Ý (I.pin p hp).1) (by rw[z];exact hb)) (À6 _)
structure Turn(P:Program)(w:World)(K:PySem.W.Frag)(tg:Expr)(J:It)(fp:List Addr)(it:Addr)(tn:Nat->Heap->Prop):Prop where
 mem:it∈fp
 obj:∀ i h,tn i h->∀ b∈fp,∃ o,h.get? b=some o/\∀ v,o.data≠.cell v
 keep:∀ i h h',tn i h->(∀ b∈fp,∀ o,h.get? b=some o->h'.get? b=some o)->tn i h'
 item:∀ (X:Cx),X.prog=P->X.w=w->X.K=K->X.calm=true->∀ (i:Nat) (pins:List (Addr × Obj)) (s:Shared) (σ:St) (H:Hp) (E:Value->Shared->Prop),Inv X pins σ H s->(∀ b∈fp,c21 X pins H b)->tn i s.heap->J.go i H ->
  wpAny (model P w) X.A (pyNext (.ref it)) (λr s1=>∃ u,r=some u /\
   wpAny (model P w) X.A (letOwnedTupleGo tg (.ref it) u) (λ_ s2=>∃ x H',Inv X pins σ H' s2/\RelV x u/\J.yld i H x H'/\tn (i + 1) s2.heap/\∀ b∈fp,H' b=none) E s1) E s
 done:∀ (X:Cx),X.prog=P->X.w=w->X.K=K->X.calm=true->∀ (i:Nat) (pins:List (Addr × Obj)) (s:Shared) (σ:St) (H:Hp) (E:Value->Shared->Prop),Inv X pins σ H s->(∀ b∈fp,c21 X pins H b)->tn i s.heap->J.stop i H ->
  wpAny (model P w) X.A (pyNext (.ref it)) (λr s1=>r=none/\Inv X pins σ H s1) E s
 self:∀ (A:Around) (i:Nat) (s:Shared) (Q:Value->Shared->Prop) (E:Value->Shared->Prop),tn i s.heap->Q (.ref it) s->wpAny (model P w) A (pyIter (.ref it)) Q E s
abbrev TI:=St->Hp->(It->Hp->Prop)->Prop
def PIE(X:Cx)(pins:List (Ç × Obj))(σ:St)(tg:Í)(R:It->Hp->Prop)(itv:Ã)(s2:Å):Prop :=
 ∃ (it:Ç) (fp:List Ç) (tn:Nat->í->Prop) (J:It) (H':Hp),itv=.ref it/\Inv X pins σ H' s2/\Turn X.prog X.w X.K tg J fp it tn/\tn 0 s2.heap/\(∀ b∈fp,c21 X pins H' b)/\R J H'
def PI(X:Cx)(tg iter:Í)(wi:TI):Prop :=
 ∀ (pins:List (Ç × Obj)) (s:Å) (σ:St) (H:Hp) (R:It->Hp->Prop),Inv X pins σ H s->wi σ H R ->
  Ï (Ô X.prog X.w) X.A (eval iter X.env) (λv s1=>Ï (Ô X.prog X.w) X.A (pyIter v) (PIE X pins σ tg R) X.xe s1) X.xe s
theorem I71{M:Model}{A:þ}{E:Ã->Å->Prop}{s:Å}{tg:Í}{it:Ç}{u:Ã}{o:Obj}{n:String}{vs:Array Ã}{Q:Unit->Å->Prop}(ho:s.heap.get? it=some o)(hc:o.cls=.type n)(hd:o.data=.fields vs)
  (hn:["enumerate","zip","dict_itemiterator","dict_reverseitemiterator","odict_iterator","itertools.zip_longest","itertools.pairwise"].contains n=false) (hQ:Q () s):Ï M A (Û8 tg (.ref it) u) Q E s:=by
 unfold Û8;cases tg <;> first
  |exact Æ hQ
  |(cases u <;> first
    |exact Æ hQ
    |(refine À (wpAny_load ho ?_)
      rw[hc,hd];show Ï M A (if (["enumerate","zip","dict_itemiterator","dict_reverseitemiterator","odict_iterator","itertools.zip_longest","itertools.pairwise"].contains n&&vs[0]? == some (rawInt _))=true then _ else _) Q E s;rw[if_neg (by intro h;rw[hn,Ì0] at h;cases h)]
      exact Æ hQ))
def Itl(K:Â)(a:Ç):It :=
 ⟨λi H=>∃ xs x,SqL K H a xs/\xs[i]?=some x,λi H x H'=>H'=H/\∀ xs,SqL K H a xs->xs[i]?=some x,λi H=>∃ xs,SqL K H a xs/\xs.length<=i⟩
def Itt(K:Â)(a:Ç):It :=
 ⟨λi H=>∃ xs x,SqT K H a xs/\xs[i]?=some x,λi H x H'=>H'=H/\∀ xs,SqT K H a xs->xs[i]?=some x,λi H=>∃ xs,SqT K H a xs/\xs.length<=i⟩
def Itr(lo:Int)(n:Nat):It:=⟨λi _=>i < n,λi H x H'=>H'=H/\x=.int (lo + i),λi _=>n<=i⟩
theorem g11{P:à}{w:ö}{K:Â}{tg:Í}(a it:Ç):Turn P w K tg (Itl K a) [it] it (λi h=>h.IsListIter it a i) where
 mem:=by simp
 obj:=λi h st b hb=>by
  have e:b=it:=by simpa using hb
  subst e;obtain⟨o,e,c,d⟩:=st;exact⟨o,e,λv z=>by rw[d] at z;cases z⟩
 keep:=λi h h' st k=>st.at λo e=>k it (by simp) o e
 item:=by
  intro X hP hw hK hc i pins s σ H E I hf st hg;subst hP hw hK;obtain⟨xs,x,hq,hx⟩:=hg;obtain⟨its,rv,p,hz⟩:=I.list hq;obtain⟨u,hu,ru⟩:=rv.get hx;obtain⟨f0,f1,f2,f3,f4,f5⟩:=hf it (by simp)
  refine wpAny_pyNext_list_item st p.isList (x:=u) (by simpa using hu) λh' st' sb=>?_
  have I1:Inv X pins σ H { s with heap:=h' }:=I.turned (t':=s.toks) (λb o hb e=>(sb.2 b hb).trans e) f0 f1 f3 f4 f5;obtain⟨o,e,c,d⟩:=id st';exact⟨u,rfl,I71 (s:={ s with heap:=h' }) e c d (-0) ⟨x,H,I1,ru,⟨rfl,λys hy=>by rw[I.W50 hy hq];exact hx⟩,st',λb hb=>(hf b hb).1⟩⟩
 done:=by
  intro X hP hw hK hc i pins s σ H E I hf st hg;subst hP hw hK;obtain⟨xs,hq,hx⟩:=hg;obtain⟨its,rv,p,hz⟩:=I.list hq;obtain⟨f0,f1,f2,f3,f4,f5⟩:=hf it (by simp)
  have hl:=rv.length;exact wpAny_pyNext_list_end (I.ok.hd hc) st p.isList (by simp;omega) λh' eb=>⟨rfl,I.turned (t':=s.toks) (λb o hb e=>eb b o hb e) f0 f1 f3 f4 f5⟩
 self:=λ_ _ _ _ _ st h=>wpAny_pyIter_listiter st h
theorem c31{P:à}{w:ö}{K:Â}{tg:Í}(a it:Ç):Turn P w K tg (Itt K a) [it] it (λi h=>h.IsTupleIter it a i) where
 mem:=by simp
 obj:=λi h st b hb=>by
  have e:b=it:=by simpa using hb
  subst e;obtain⟨o,e,c,d⟩:=st;exact⟨o,e,λv z=>by rw[d] at z;cases z⟩
 keep:=λi h h' st k=>st.at λo e=>k it (by simp) o e
 item:=by
  intro X hP hw hK hc i pins s σ H E I hf st hg;subst hP hw hK;obtain⟨xs,x,hq,hx⟩:=hg;obtain⟨its,rv,p,hz⟩:=I.tuple hq;obtain⟨u,hu,ru⟩:=rv.get hx;obtain⟨f0,f1,f2,f3,f4,f5⟩:=hf it (by simp)
  refine wpAny_pyNext_tuple_item st (show s.heap.IsTuple a its.toArray from p) (x:=u) (by simpa using hu) λh' st' sb=>?_
  have I1:Inv X pins σ H { s with heap:=h' }:=I.turned (t':=s.toks) (λb o hb e=>(sb.2 b hb).trans e) f0 f1 f3 f4 f5;obtain⟨o,e,c,d⟩:=id st';exact⟨u,rfl,I71 (s:={ s with heap:=h' }) e c d (-0) ⟨x,H,I1,ru,⟨rfl,λys hy=>by rw[I.L20 hy hq];exact hx⟩,st',λb hb=>(hf b hb).1⟩⟩
 done:=by
  intro X hP hw hK hc i pins s σ H E I hf st hg;subst hP hw hK;obtain⟨xs,hq,hx⟩:=hg;obtain⟨its,rv,p,hz⟩:=I.tuple hq;obtain⟨f0,f1,f2,f3,f4,f5⟩:=hf it (by simp)
  have hl:=rv.length;exact wpAny_pyNext_tuple_end (I.ok.hd hc) st (show s.heap.IsTuple a its.toArray from p) (by simp;omega) λh' eb=>⟨rfl,I.turned (t':=s.toks) (λb o hb e=>eb b o hb e) f0 f1 f3 f4 f5⟩
 self:=λ_ _ _ _ _ st h=>wpAny_pyIter_tupleiter st h
theorem c41{P:à}{w:ö}{K:Â}{tg:Í}(it:Ç)(lo:Int)(n:Nat):Turn P w K tg (Itr lo n) [it] it (λi h=>IsRangeIter h it (lo + (i:Nat) * 1) ((n:Int) - (i:Nat)) 1) where
 mem:=by simp
 obj:=λi h st b hb=>by
  have e:b=it:=by simpa using hb
  subst e;exact⟨_,st,λv z=>by
   have z':Data.fields _=Data.cell v:=z;cases z'⟩
 keep:=λi h h' st k=>k it (by simp) _ st
 item:=by
  intro X hP hw hK hc i pins s σ H E I hf st hg;subst hP hw hK;obtain⟨f0,f1,f2,f3,f4,f5⟩:=hf it (by simp)
  have W:=Walks.range (prog:=X.prog) (w:=X.w) (I.ok.hd hc) it lo 1 n;refine W.item i s _ _ hg st λv h' tk hv st' kk=>?_;obtain⟨t,rfl⟩:=hv;have I1:Inv X pins σ H { s with heap:=h',toks:=tk }:=I.turned (λb o hb e=>kk b o (by simpa using hb) e) f0 f1 f3 f4 f5
  refine⟨_,rfl,I71 (s:={ s with heap:=h',toks:=tk }) (n:="range_iterator") st' rfl rfl (-0) ⟨.int (lo + i),H,I1,⟨t,?_⟩,⟨rfl,rfl⟩,st',λb hb=>(hf b hb).1⟩⟩
  rw[mul_one]
 done:=by
  intro X hP hw hK hc i pins s σ H E I hf st hg;subst hP hw hK;obtain⟨f0,f1,f2,f3,f4,f5⟩:=hf it (by simp)
  exact wpAny_pyNext_range_end (I.ok.hd hc) st (by have:n<=i:=hg;omega) λh' eb=>⟨rfl,I.turned (t':=s.toks) (λb o hb e=>eb b o hb e) f0 f1 f3 f4 f5⟩
 self:=λ_ _ _ _ _ st h=>wpAny_pyIter_rangeiter st h
section
variable {X:Cx}{tg:Í}
def m52(K:Â)(tl:TE):TI:=λσ H R=>tl σ H λx H1=>∃ a,x=.ref a/\(∃ xs,SqL K H1 a xs)/\R (Itl K a) H1
def B42(K:Â)(tl:TE):TI:=λσ H R=>tl σ H λx H1=>∃ a,x=.ref a/\(∃ xs,SqT K H1 a xs)/\R (Itt K a) H1
theorem R20{l:Í}{tl:TE}(hl:PE X l tl):PI X tg l (m52 X.K tl):=by
 intro pins s σ H R I h;refine thn (hl pins s σ H _ I h) λv s1 ⟨x,H1,I1,r1,q1⟩=>?_;obtain⟨a,e,⟨xs,hq⟩,q⟩:=q1;subst e;cases r1;obtain⟨its,rv,p,hz⟩:=I1.list hq;refine wpAny_pyIter_list p.isList ?_;refine⟨s1.heap.objs.size,[s1.heap.objs.size],_,_,H1,rfl,I1.kept (t':=s1.toks) λb o e=>Ä _ e,g11 a _,⟨_,Î _ rfl,rfl,rfl⟩,λb hb=>?_,q⟩;have e:b=s1.heap.objs.size:=by simpa using hb
 subst e;exact I1.f51 (È _) (I1.hok.fresh (È _))
theorem D11{l:Í}{tl:TE}(hl:PE X l tl):PI X tg l (B42 X.K tl):=by
 intro pins s σ H R I h;refine thn (hl pins s σ H _ I h) λv s1 ⟨x,H1,I1,r1,q1⟩=>?_;obtain⟨a,e,⟨xs,hq⟩,q⟩:=q1;subst e;cases r1;obtain⟨its,rv,p,hz⟩:=I1.tuple hq;refine È8 (show s1.heap.IsTuple a its.toArray from p) ?_;refine⟨s1.heap.objs.size,[s1.heap.objs.size],_,_,H1,rfl,I1.kept (t':=s1.toks) λb o e=>Ä _ e,c31 a _,⟨_,Î _ rfl,rfl,rfl⟩,λb hb=>?_,q⟩;have e:b=s1.heap.objs.size:=by simpa using hb
 subst e;exact I1.f51 (È _) (I1.hok.fresh (È _))
theorem W60{pins:List (Ç × Obj)}{σ:St}{H:Hp}{s:Å}{R:It->Hp->Prop}{E:Ã->Å->Prop}{lo hi:Int}{t u v:Tok}{tk:Nat}(I:Inv X pins σ H s)(h1:-(2 ^ 62)<=lo)(h2:lo < 2 ^ 62)(h3:-(2 ^ 62)<=hi)(h4:hi < 2 ^ 62)
  (q:R (Itr lo (hi - lo).toNat) H):Ï (Ô X.prog X.w) X.A (pyIter (.ref s.heap.objs.size)) (PIE X pins σ tg R) E { s with heap:=s.heap.push { cls:=.type "range",data:=.fields #[.int lo t,.int hi u,.int 1 v] },toks:=tk }:=by
 refine wpAny_pyIter_range (Ò1.new ..) (small_one h1 h2 h3 h4) ?_;have I1:Inv X pins σ H { s with heap:=s.heap.push { cls:=.type "range",data:=.fields #[.int lo t,.int hi u,.int 1 v] },toks:=tk }:=I.kept λb o e=>Ä _ e;refine⟨(s.heap.push { cls:=.type "range",data:=.fields #[.int lo t,.int hi u,.int 1 v] }).objs.size,[(s.heap.push { cls:=.type "range",data:=.fields #[.int lo t,.int hi u,.int 1 v] }).objs.size],_,_,H,rfl,
  I1.kept (t':=tk) λb o e=>Ä _ e,c41 _ lo (hi - lo).toNat,?_,λb hb=>?_,q⟩
 ·have e1:lo + ((0:Nat):Int) * 1=lo:=by simp
  have e2:(((hi - lo).toNat:Nat):Int) - ((0:Nat):Int)=Â2 lo hi 1:=by rw[rangeSize_one];split <;> omega
  show IsRangeIter _ _ (lo + ((0:Nat):Int) * 1) ((((hi - lo).toNat:Nat):Int) - ((0:Nat):Int)) 1;rw[e1,e2];exact Î _ rfl
 ·have e:b=(s.heap.push { cls:=.type "range",data:=.fields #[.int lo t,.int hi u,.int 1 v] }).objs.size:=by simpa using hb
  subst e;exact I1.f51 (È _) (I1.hok.fresh (È _))
def m62(ta:TA):TI:=λσ H R=>ta σ H λvs H1=>∃ j:Int,vs=[.int j]/\-(2 ^ 62)<=j/\j < 2 ^ 62/\R (Itr 0 j.toNat) H1
def m72(ta:TA):TI:=λσ H R=>ta σ H λvs H1=>∃ i j:Int,vs=[.int i,.int j]/\(-(2 ^ 62)<=i/\i < 2 ^ 62/\-(2 ^ 62)<=j/\j < 2 ^ 62)/\R (Itr i (j - i).toNat) H1
theorem g21{a:Í}{ta:TA}{p pos:Pos}(hg:Gl X "range")(hm:X.mg "range"=none)(ha:PA X [a] ta)(hs:ù [a] X.env=[(false,eval a X.env)]:=by rfl):PI X tg (.Call (.Name "range" p) [a] [] pos) (m62 ta):=by
 intro pins s σ H R I h;refine Call_ (r40 I hg hm boot_range (ÿ (thn (ha pos pins s σ H _ I h) λus s1 ⟨vs,H1,I1,r1,q1⟩=>?_) hs rfl));obtain⟨j,e,q1,q2,q⟩:=q1;subst e;cases r1 with
 |cons r rr =>
  cases rr;obtain⟨t,rfl⟩:=r;exact call_range_1 (W60 I1 ∅ ∅ q1 q2 (by simpa using q))
theorem g31{a b:Í}{ta:TA}{p pos:Pos}(hg:Gl X "range")(hm:X.mg "range"=none)(ha:PA X [a,b] ta)(hs:ù [a,b] X.env=[(false,eval a X.env),(false,eval b X.env)]:=by rfl)(hs2:ù [b] X.env=[(false,eval b X.env)]:=by rfl) :
  PI X tg (.Call (.Name "range" p) [a,b] [] pos) (m72 ta):=by
 intro pins s σ H R I h;refine Call_ (r40 I hg hm boot_range (ÿ (thn (ha pos pins s σ H _ I h) λus s1 ⟨vs,H1,I1,r1,q1⟩=>?_) (by rw[hs,hs2]) (by rw[hs2];rfl)))
 obtain⟨i,j,e,⟨q1,q2,q3,q4⟩,q⟩:=q1;subst e;cases r1 with
 |cons r rr =>
  cases rr with
  |cons r' rr =>
   cases rr;obtain⟨t,rfl⟩:=r;obtain⟨t',rfl⟩:=r';exact call_range_2 (W60 I1 q1 q2 q3 q4 q)
def B52(wi:TI)(g:TG)(tb:TS):TS:=λD σ H=>wi σ H λJ H1=>∃ W:Nat->Nat->St->Hp->Prop,(∃ m,W 0 m σ H1)/\∀ i m σ H,W i m σ H ->
 (J.stop i H/\D.nx σ H)∨(J.go i H/\∃ N:St->Hp->Prop,(∀ σ' H',N σ' H'->∃ m',m' < m/\W (i + 1) m' σ' H')/\∀ x H',J.yld i H x H'->g x σ H' λσ2 H2=>tb { D with nx:=N,ct:=N,bk:=D.nx } σ2 H2)
def z20(fp:List Ç)(h:í):List (Ç × Obj):=fp.filterMap λb=>(h.get? b).map λo=>(b,o)
theorem j20{fp:List Ç}{h:í}{b:Ç}{o:Obj}(hb:b∈fp)(e:h.get? b=some o):(b,o)∈z20 fp h:=Ó6.mpr ⟨b,hb,by rw[e];rfl⟩
theorem L30{fp:List Ç}{h:í}{p:Ç × Obj}(hp:p∈z20 fp h):p.1∈fp/\h.get? p.1=some p.2:=by
 obtain⟨b,hb,e⟩:=Ó6.mp hp;cases q:h.get? b with
 |none=>rw[q] at e;cases e
 |some o =>
  rw[q] at e;have e':(b,o)=p:=ý e;subst e';exact⟨hb,q⟩
theorem Inv.pinned{pins:List (Ç × Obj)}{σ:St}{H:Hp}{s:Å}{fp:List Ç}(I:Inv X pins σ H s)(hf:∀ b∈fp,c21 X pins H b)(ho:∀ b∈fp,∃ o,s.heap.get? b=some o/\∀ v,o.data≠.cell v):Inv X (pins++z20 fp s.heap) σ H s :=
 I.z00 λp hp=>(Â0.mp hp).elim (λz=>I.pin p (ä _ z)) λz=>by
  obtain⟨hb,e⟩:=L30 z;obtain⟨f0,f1,f2,_⟩:=hf p.1 hb;obtain⟨o,e',d⟩:=ho p.1 hb;rw[e] at e';cases e';exact⟨e,f0,f1,f2,d⟩
theorem Inv.F40{pins pl:List (Ç × Obj)}{σ:St}{H:Hp}{s:Å}(I:Inv X (pins++pl) σ H s):Inv X pins σ H s:=I.z00 λp hp=>I.pin p (ä _ (Ë0 _ hp))
theorem D21{iter:Í}{body:List Å6}{wi:TI}{g:TG}{tb:TS}{pos:Pos}(hp:PassesOwn (Ô X.prog X.w) X.A X.env X.xe)(hc:X.calm=true)(hi:PI X tg iter wi)(hg:PG X tg g)(hb:PSs X body tb)
  (hs:∀ x,É6 iter X.env x=pure x:=by intro _;rfl):PS X (.For tg iter body [] pos) (B52 wi g tb):=by
 intro pins s σ H D I h;refine wpAny_For (thn (hi pins s σ H _ I h) λv s1 h1=>thn h1 λitv s2 h2=>?_) hs;obtain⟨it,fp,tn,J,H2,e,I2,T,st2,f2,W,⟨m0,w0⟩,turn⟩:=h2;subst e;have stat:∀ {H':Hp},(∀ b∈fp,H' b=none)->∀ b∈fp,c21 X pins H' b:=λhn b hb=>⟨hn b hb,(f2 b hb).2⟩;refine codeAny_forLoop_any (λn s'=>∃ i σ' H',Inv X pins σ' H' s'/\tn i s'.heap/\(∀ b∈fp,H' b=none)/\W i n σ' H') ?_ m0 ⟨0,σ,H2,I2,st2,λb hb=>(f2 b hb).1,w0⟩;rintro n s3 ⟨i,σ3,H3,I3,st3,fr3,w3⟩;rcases turn i n σ3 H3 w3 with ⟨stop,qn⟩ | ⟨go,N,hN,step⟩
 ·refine Æ5 hp (thn (T.done X rfl rfl rfl hc i pins s3 σ3 H3 X.xe I3 (stat fr3) st3 stop) λr s4 ⟨hr,I4⟩=>?_);subst hr;exact Û7 ⟨σ3,H3,I4,qn⟩
 ·refine Æ5 hp (thn (T.item X rfl rfl rfl hc i pins s3 σ3 H3 X.xe I3 (stat fr3) st3 go) λr s4 ⟨u,hr,h4⟩=>?_);subst hr;refine Æ5 hp (thn h4 λ_ s5 ⟨x,H5,I5,r5,y5,st5,fr5⟩=>?_);have I5':=I5.pinned (stat fr5) (T.obj _ _ st5);refine Æ5 hp (thn (hg _ s5 σ3 H5 x u _ I5' r5 (step x H5 y5)) λ_ s6 ⟨σ6,H6,I6,q6⟩=>?_);refine Æ5 hp (thn (hb _ s6 σ6 H6 _ I6 q6) λf s7 q7=>?_);have again:∀ {σ7:St}{H7:Hp},Inv X (pins++z20 fp s5.heap) σ7 H7 s7->N σ7 H7->∃ m,m < n/\∃ i σ' H',Inv X pins σ' H' s7/\tn i s7.heap/\(∀ b∈fp,H' b=none)/\W i m σ' H':=λ{σ7 H7} I7 n7=>by
   obtain⟨m',hm,w7⟩:=hN σ7 H7 n7;refine⟨m',hm,i + 1,σ7,H7,I7.F40,T.keep _ _ _ st5 λb hb o e=>(I7.pin (b,o) (ä _ (ä _ (j20 hb e)))).1,λb hb=>?_,w7⟩;obtain⟨o,e,d⟩:=T.obj _ _ st5 b hb;exact(I7.pin (b,o) (ä _ (ä _ (j20 hb e)))).2.1
  cases f with
  |next=>obtain⟨σ7,H7,I7,n7⟩:=q7;exact again I7 n7
  |cont=>obtain⟨σ7,H7,I7,n7⟩:=q7;exact again I7 n7
  |brk=>obtain⟨σ7,H7,I7,q7⟩:=q7;exact⟨σ7,H7,I7.F40,q7⟩
  |ret v=>obtain⟨x7,σ7,H7,I7,r7,q7⟩:=q7;exact⟨x7,σ7,H7,I7.F40,r7,q7⟩
end
abbrev R2:=V->V->Hp->VK->Prop
def OpR(X:Cx)(f:Ã->Ã->Sem Ã)(r:R2):Prop :=
 ∀ (pins:List (Ç × Obj)) (s:Å) (σ:St) (H:Hp) (x y:V) (v u:Ã) (Q:VK),Inv X pins σ H s->RelV x v->RelV y u->r x y H Q ->
  Ï (Ô X.prog X.w) X.A (f v u) (EP X pins σ Q) X.xe s
def UnR(X:Cx)(f:Ã->Sem Ã)(r:V->Hp->VK->Prop):Prop :=
 ∀ (pins:List (Ç × Obj)) (s:Å) (σ:St) (H:Hp) (x:V) (v:Ã) (Q:VK),Inv X pins σ H s->RelV x v->r x H Q ->
  Ï (Ô X.prog X.w) X.A (f v) (EP X pins σ Q) X.xe s
def f70(X:Cx)(f:Ã)(r:List V->Hp->VK->Prop):Prop :=
 ∀ (pins:List (Ç × Obj)) (s:Å) (σ:St) (H:Hp) (xs:List V) (us:List Ã) (Q:VK),Inv X pins σ H s->Vals xs us->r xs H Q ->
  Ï (Ô X.prog X.w) X.A (call f us) (EP X pins σ Q) X.xe s
def tOp(r:R2)(ta tb:TE):TE:=λσ H Q=>ta σ H λx H1=>tb σ H1 λy H2=>r x y H2 Q
def tUn(r:V->Hp->VK->Prop)(ta:TE):TE:=λσ H Q=>ta σ H λx H1=>r x H1 Q
def rI(C:Int->Int->Prop)(g:Int->Int->V):R2:=λx y H Q=>∃ i j,x=.int i/\y=.int j/\C i j/\Q (g i j) H
def rI0(g:Int->Int->V):R2:=λx y H Q=>∃ i j,x=.int i/\y=.int j/\Q (g i j) H
def rU(g:Int->V):V->Hp->VK->Prop:=λx H Q=>∃ i,x=.int i/\Q (g i) H
section
variable {X:Cx}{a b c:Í}{ta tb tc:TE}{pos:Pos}
theorem m82(ha:PE X a ta)(hb:PE X b tb){pins:List (Ç × Obj)}{s:Å}{σ:St}{H:Hp}{R:V->V->Hp->Prop}(I:Inv X pins σ H s)
  (h:ta σ H λx H1=>tb σ H1 λy H2=>R x y H2) {Q:Ã->Å->Prop}{f:Ã->Ã->Sem Ã}
  (hf:∀ v u s2 x y H2,Inv X pins σ H2 s2->RelV x v->RelV y u->R x y H2->Ï (Ô X.prog X.w) X.A (f v u) Q X.xe s2) :
  Ï (Ô X.prog X.w) X.A (eval a X.env) (λv s₁=>Ï (Ô X.prog X.w) X.A (eval b X.env) (λu s₂=>Ï (Ô X.prog X.w) X.A (f v u) Q X.xe s₂) X.xe s₁) X.xe s:=by
 refine thn (ha pins s σ H _ I h) λv s1 ⟨x,H1,I1,r1,q1⟩=>?_;refine thn (hb pins s1 σ H1 _ I1 q1) λu s2 ⟨y,H2,I2,r2,q2⟩=>?_;exact hf v u s2 x y H2 I2 r1 r2 q2
theorem m92{op:Ë6}{r:R2}(ho:OpR X (Â8 op) r)(ha:PE X a ta)(hb:PE X b tb):PE X (.BinOp a op b pos) (tOp r ta tb):=by
 intro pins s σ H Q I h;exact wpAny_BinOp (m82 ha hb I h λv u s2 x y H2 I2 rx ry q=>ho pins s2 σ H2 x y v u Q I2 rx ry q)
theorem W61{op:UnaryOp}{r:V->Hp->VK->Prop}(ho:UnR X (unaryOp op) r)(ha:PE X a ta):PE X (.UnaryOp op a pos) (tUn r ta):=by
 intro pins s σ H Q I h;exact UnaryOp_ (thn (ha pins s σ H _ I h) λv s1 ⟨x,H1,I1,r1,q1⟩=>ho pins s1 σ H1 x v Q I1 r1 q1)
theorem opI{f:Ã->Ã->Sem Ã}{C:Int->Int->Prop}{g:Int->Int->Int}
  (rule:∀ (i j:Int) (t u:Tok) (s:Å) (Q:Ã->Å->Prop) (E:Ã->Å->Prop),C i j->Q (.int (g i j) s.toks) { s with toks:=s.toks + 1 }->Ï (Ô X.prog X.w) X.A (f (.int i t) (.int j u)) Q E s) :
  OpR X f (rI C λi j=>.int (g i j)):=by
 intro pins s σ H x y v u Q I rx ry h;obtain⟨i,j,rfl,rfl,hc,q⟩:=h;obtain⟨t,rfl⟩:=rx;obtain⟨t',rfl⟩:=ry;exact rule i j t t' s _ _ hc ⟨.int (g i j),H,I.tok _,⟨_,rfl⟩,q⟩
theorem n02{f:Ã->Ã->Sem Ã}{g:Int->Int->Int}
  (rule:∀ (i j:Int) (t u:Tok) (s:Å) (Q:Ã->Å->Prop) (E:Ã->Å->Prop),Q (.int (g i j) s.toks) { s with toks:=s.toks + 1 }->Ï (Ô X.prog X.w) X.A (f (.int i t) (.int j u)) Q E s) :
  OpR X f (rI0 λi j=>.int (g i j)):=by
 intro pins s σ H x y v u Q I rx ry h;obtain⟨i,j,rfl,rfl,q⟩:=h;obtain⟨t,rfl⟩:=rx;obtain⟨t',rfl⟩:=ry;exact rule i j t t' s _ _ ⟨.int (g i j),H,I.tok _,⟨_,rfl⟩,q⟩
theorem n12{f:Ã->Ã->Sem Ã}{g:Int->Int->Bool}
  (rule:∀ (i j:Int) (t u:Tok) (s:Å) (Q:Ã->Å->Prop) (E:Ã->Å->Prop),Q (.bool (g i j)) s->Ï (Ô X.prog X.w) X.A (f (.int i t) (.int j u)) Q E s) :
  OpR X f (rI0 λi j=>.bl (g i j)):=by
 intro pins s σ H x y v u Q I rx ry h;obtain⟨i,j,rfl,rfl,q⟩:=h;obtain⟨t,rfl⟩:=rx;obtain⟨t',rfl⟩:=ry;exact rule i j t t' s _ _ ⟨.bl (g i j),H,I,rfl,q⟩
def x62(i j:Int):Prop:=0<=j/\j<=1000000/\i.natAbs < 2 ^ 64
theorem W71:OpR X (Â8 .Add) (rI0 λi j=>.int (i + j)):=n02 λ_ _ _ _ _ _ _ q=>add_int q
theorem W81:OpR X (Â8 .Sub) (rI0 λi j=>.int (i - j)):=n02 λ_ _ _ _ _ _ _ q=>sub_int q
theorem W91:OpR X (binaryOp .Mod) (rI (λ_ j=>0 < j) λi j=>.int (i % j)):=opI λi j _ _ _ _ _ hc q=>by
 have h1:(0:Int) < j:=hc;exact mod_int' ∅ (by rw[Int.fmod_eq_emod_of_nonneg i ∅];exact q)
theorem X01:OpR X (Â8 .Pow) (rI x62 λi j=>.int (i ^ j.toNat)):=opI λ_ _ _ _ _ _ _ hc q=>pow_int_small hc.1 hc.2.1 hc.2.2 q
theorem x72:OpR X (Â8 .LShift) (rI x62 λi j=>.int (i * 2 ^ j.toNat)):=opI λ_ _ _ _ _ _ _ hc q=>lshift_int_small hc.1 hc.2.1 hc.2.2 q
theorem x82:OpR X (Â8 .BitAnd) (rI0 λi j=>.int (Å2.bitAnd i j)):=n02 λ_ _ _ _ _ _ _ q=>and_int q
theorem unI{f:Ã->Sem Ã}{g:Int->Int}
  (rule:∀ (i:Int) (t:Tok) (s:Å) (Q:Ã->Å->Prop) (E:Ã->Å->Prop),Q (.int (g i) s.toks) { s with toks:=s.toks + 1 }->Ï (Ô X.prog X.w) X.A (f (.int i t)) Q E s) :
  UnR X f (rU λi=>.int (g i)):=by
 intro pins s σ H x v Q I rx h;obtain⟨i,rfl,q⟩:=h;obtain⟨t,rfl⟩:=rx;exact rule i t s _ _ ⟨.int (g i),H,I.tok _,⟨_,rfl⟩,q⟩
theorem D31:UnR X (unaryOp .USub) (rU λi=>.int (-i)):=unI λ_ _ _ _ _ q=>neg_int q
theorem W70{pins:List (Ç × Obj)}{σ:St}{H:Hp}{s:Å}{Q:VK}{k k':Bool}(I:Inv X pins σ H s)(q:Q (.bl k) H)(e:k=k'):EP X pins σ Q (.bool k') s:=by
 subst e;exact⟨.bl k,H,I,rfl,q⟩
theorem n22:OpR X (ñ .LtE) (rI0 λi j=>.bl (decide (i<=j))):=n12 λ_ _ _ _ _ _ _ q=>le_int q
theorem n32:OpR X (ñ .Gt) (rI0 λi j=>.bl (decide (j < i))):=n12 λ_ _ _ _ _ _ _ q=>gt_int q
theorem n42:OpR X (ñ .GtE) (rI0 λi j=>.bl (decide (j<=i))):=n12 λ_ _ _ _ _ _ _ q=>ge_int q
theorem X11:OpR X (ñ .Is) (λx y H Q=>y=.non/\Q (.bl (decide (x=.non))) H):=by
 intro pins s σ H x y v u Q I rx ry h;obtain⟨rfl,q⟩:=h;cases ry;refine is_none_gen (W70 I q ?_);cases x <;> first
  |(cases rx;rfl)
  |(obtain⟨t,rfl⟩:=rx;rfl)
theorem n52:OpR X (ñ .IsNot) (λx y H Q=>y=.non/\Q (.bl (!decide (x=.non))) H):=by
 intro pins s σ H x y v u Q I rx ry h;obtain⟨rfl,q⟩:=h;cases ry;refine isnot_none_gen (W70 I q ?_);cases x <;> first
  |(cases rx;rfl)
  |(obtain⟨t,rfl⟩:=rx;rfl)
theorem I81{op:CmpOp}{r:R2}(ho:OpR X (ñ op) r)(ha:PE X a ta)(hb:PE X b tb)(hm:behindInMarks op b=false):PE X (.Compare a [op] [b] pos) (tOp r ta tb):=by
 intro pins s σ H Q I h;exact wpAny_Compare1 (m82 ha hb I h λv u s2 x y H2 I2 rx ry q=>ho pins s2 σ H2 x y v u Q I2 rx ry q) hm
def X21(t:TE):TT:=λσ H Q=>t σ H λx H'=>∃ k,x=.bl k/\Q k H'
theorem I91{op:CmpOp}{r:R2}(ho:OpR X (ñ op) r)(ha:PE X a ta)(hb:PE X b tb)(hm:behindInMarks op b=false):PT X (.Compare a [op] [b] pos) (X21 (tOp r ta tb)):=by
 intro pins s σ H Q I h;refine wpAny_isTrue_Compare1 (thn (ha pins s σ H _ I h) λv s1 ⟨x,H1,I1,r1,q1⟩=>thn (hb pins s1 σ H1 _ I1 q1) λu s2 ⟨y,H2,I2,r2,q2⟩ =>
  thn (ho pins s2 σ H2 x y v u _ I2 r1 r2 q2) λc s3 ⟨z,H3,I3,r3,k,e,q3⟩=>?_) hm
 subst e;cases r3;exact Á0 ⟨H3,I3,q3⟩
def g41(r r':R2)(ta tb tc:TE):TE:=λσ H Q=>ta σ H λx H1=>tb σ H1 λy H2=>r x y H2 λz H3=>∃ k,z=.bl k /\
 (if k=true then tc σ H3 λw' H4=>r' y w' H4 Q else Q (.bl false) H3)
theorem u91{op op':CmpOp}{r r':R2}(ho:OpR X (ñ op) r)(ho':OpR X (ñ op') r')(ha:PE X a ta)(hb:PE X b tb)(hc:PE X c tc)
  (hm:lastMarks [op,op'] [b,c]=false:=by with_unfolding_all rfl):PE X (.Compare a [op,op'] [b,c] pos) (g41 r r' ta tb tc):=by
 intro pins s σ H Q I h;refine Compare_chain (thn (ha pins s σ H _ I h) λv s1 ⟨x,H1,I1,r1,q1⟩=>chain_link (thn (hb pins s1 σ H1 _ I1 q1) λu s2 ⟨y,H2,I2,r2,q2⟩ =>
  thn (ho pins s2 σ H2 x y v u _ I2 r1 r2 q2) λd s3 ⟨z,H3,I3,r3,k,e,q3⟩=>?_)) hm
 subst e;cases r3;refine Á0 ?_;cases k with
 |false=>exact ite_ff ⟨.bl false,H3,I3,rfl,q3⟩|true=>exact ite_tt (chain_last (thn (hc pins s3 σ H3 _ I3 q3) λw' s4 ⟨z',H4,I4,r4,q4⟩=>ho' pins s4 σ H4 y z' u w' Q I4 r2 r4 q4))
theorem v01{op op':CmpOp}{r r':R2}(ho:OpR X (ñ op) r)(ho':OpR X (ñ op') r')(ha:PE X a ta)(hb:PE X b tb)(hc:PE X c tc)
  (hm:lastMarks [op,op'] [b,c]=false:=by with_unfolding_all rfl):PT X (.Compare a [op,op'] [b,c] pos) (X21 (g41 r r' ta tb tc)):=by
 intro pins s σ H Q I h;refine isTrue_chain (thn (ha pins s σ H _ I h) λv s1 ⟨x,H1,I1,r1,q1⟩=>test_link (thn (hb pins s1 σ H1 _ I1 q1) λu s2 ⟨y,H2,I2,r2,q2⟩ =>
  thn (ho pins s2 σ H2 x y v u _ I2 r1 r2 q2) λd s3 ⟨z,H3,I3,r3,k,e,q3⟩=>?_)) hm
 subst e;cases r3;refine Á0 ?_;cases k with
 |false =>
  obtain⟨k',e',q'⟩:=q3;cases e';exact ite_ff ⟨H3,I3,q'⟩
 |true =>
  refine ite_tt (test_last (thn (hc pins s3 σ H3 _ I3 q3) λw' s4 ⟨z',H4,I4,r4,q4⟩=>thn (ho' pins s4 σ H4 y z' u w' _ I4 r2 r4 q4) λd' s5 ⟨z2,H5,I5,r5,k2,e2,q5⟩=>?_));subst e2;cases r5;exact Á0 ⟨H5,I5,q5⟩
theorem L40:(sizeLine:Nat) < 2 ^ 63:=by rw[Á6];decide
theorem vals1{x:V}{us:List Ã}(r:Vals [x] us):∃ u,us=[u]/\RelV x u:=by
 cases r with
 |cons r1 r2=>cases r2;exact⟨_,rfl,r1⟩
theorem vals2{x y:V}{us:List Ã}(r:Vals [x,y] us):∃ u w',us=[u,w']/\RelV x u/\RelV y w':=by
 cases r with
 |cons r1 r2 =>
  cases r2 with
  |cons r3 r4=>cases r4;exact⟨_,_,rfl,r1,r3⟩
theorem j72:f70 X (.builtin "abs") (λxs H Q=>∃ i,xs=[.int i]/\Q (.int (if i < 0 then -i else i)) H):=by
 intro pins s σ H xs us Q I r h;obtain⟨i,rfl,q⟩:=h;obtain⟨u,rfl,t,rfl⟩:=vals1 r;exact call_abs_int λu tk=>⟨.int (if i < 0 then -i else i),H,I.tok _,⟨_,rfl⟩,q⟩
theorem g51(hc:X.calm=true):f70 X (.builtin "max") (λxs H Q=>∃ i j,xs=[.int i,.int j]/\Q (.int (if j > i then j else i)) H):=by
 intro pins s σ H xs us Q I r h;obtain⟨i,j,rfl,q⟩:=h;obtain⟨u,w',rfl,⟨t,rfl⟩,⟨t',rfl⟩⟩:=vals2 r;refine max_two_ints (I.ok.hd hc) λh' tk k=>⟨_,H,I.kept k,?_,q⟩;by_cases hj:j > i
 ·rw[if_pos hj,if_pos hj];exact⟨_,rfl⟩
 ·rw[if_neg hj,if_neg hj];exact⟨_,rfl⟩
theorem g61(hc:X.calm=true):f70 X (.builtin "min") (λxs H Q=>∃ i j,xs=[.int i,.int j]/\Q (.int (if j < i then j else i)) H):=by
 intro pins s σ H xs us Q I r h;obtain⟨i,j,rfl,q⟩:=h;obtain⟨u,w',rfl,⟨t,rfl⟩,⟨t',rfl⟩⟩:=vals2 r;refine min_two_ints (I.ok.hd hc) λh' tk k=>⟨_,H,I.kept k,?_,q⟩;by_cases hj:j < i
 ·rw[if_pos hj,if_pos hj];exact⟨_,rfl⟩
 ·rw[if_neg hj,if_neg hj];exact⟨_,rfl⟩
theorem L50:f70 X (.type "int") (λxs H Q=>(∃ i,xs=[.int i]/\Q (.int i) H)∨∃ k,xs=[.bl k]/\Q (.int (if k then 1 else 0)) H):=by
 intro pins s σ H xs us Q I r h;rcases h with ⟨i,rfl,q⟩ | ⟨k,rfl,q⟩
 ·obtain⟨u,rfl,t,rfl⟩:=vals1 r;exact call_int_int ⟨.int i,H,I,⟨_,rfl⟩,q⟩
 ·obtain⟨u,rfl,r1⟩:=vals1 r;cases r1;exact call_int_bool ⟨.int (if k then 1 else 0),H,I.tok _,⟨_,rfl⟩,q⟩
end
structure Q50(k:Nat)(A:Around):Prop where
 hd:A.handled=none
 dp:A.depth + 3 * k + 5 < recursionLimit
 un:A.units + 16 * k + 200 < cLine
theorem Q50.deeper{k:Nat}{A:þ}(r:Q50 (k + 1) A)(env:Env):Q50 k (A.deeper env) :=
 ⟨r.hd,by have:=r.dp;show A.depth + 1 + 3 * k + 5 < _;omega,by have:=r.un;show A.units + 3 + 16 * k + 200 < _;omega⟩
theorem Q50.depth{k:Nat}{A:þ}(r:Q50 k A):A.depth < recursionLimit:=by have:=r.dp;omega
theorem Q50.units{k:Nat}{A:þ}(r:Q50 k A):A.units + 64 < cLine:=by have:=r.un;omega
def B62:TA:=λ_ H Q=>Q [] H
def n62(ta:TE)(tr:TA):TA:=λσ H Q=>ta σ H λx H1=>tr σ H1 λxs H2=>Q (x::xs) H2
section
variable {X:Cx}{e:Í}{es:List Í}{te:TE}{t:TA}{pos:Pos}
theorem L60:PA X [] B62:=λ_ _ _ _ H Q I h=>Õ1 ⟨[],H,I,.nil,h⟩
theorem l90(ha:PE X e te)(hr:PA X es t)(hs:ù (e::es) X.env=(false,eval e X.env)::ù es X.env:=by rfl):PA X (e::es) (n62 te t):=by
 intro pos pins s σ H Q I h;rw[hs];show Ï _ _ (spliced ((false,eval e X.env)::Ò0 pos (ù es X.env))) _ _ s;refine Calls.spliced_cons (thn (ha pins s σ H _ I h) λu s1 ⟨x,H1,I1,r1,q1⟩=>?_);exact thn (hr pos pins s1 σ H1 _ I1 q1) λus s2 ⟨xs,H2,I2,r2,q2⟩=>⟨x::xs,H2,I2,.cons r1 r2,q2⟩
def B72(t:TA):TE:=λσ H Q=>t σ H λxs H1=>xs.length<=sizeLine/\∀ p,H1 p=none->Q (.ref p) (upd H1 p (.tup xs))
def B82(t:TA):TE:=λσ H Q=>t σ H λxs H1=>xs.length<=sizeLine/\∀ p,H1 p=none->Q (.ref p) (upd H1 p (.lst xs))
theorem D41{x1}(h:PA X es t):PE X (.Tuple es x1 pos) (B72 t):=by
 intro pins s σ H Q I hq;refine wpAny_Tuple_spliced (thn (h pos pins s σ H _ I hq) λus s1 ⟨xs,H1,I1,r,z,q⟩=>⟨by rw[← r.length];exact z,?_⟩)
 have hf:H1 s1.heap.objs.size=none:=I1.hok.fresh (È _);refine⟨.ref s1.heap.objs.size,upd H1 s1.heap.objs.size (.tup xs),I1.laid (t':=s1.toks) (λb u e=>Ä _ e) (È _) ?_,rfl,q _ hf⟩;exact⟨z,us,r,⟨_,Î _ rfl,rfl,_,rfl⟩⟩
theorem X31(h:PA X es t):PE X (.List es pos) (B82 t):=by
 intro pins s σ H Q I hq;refine wpAny_List_spliced (thn (h pos pins s σ H _ I hq) λus s1 ⟨xs,H1,I1,r,z,q⟩=>⟨by rw[← r.length];exact z,?_⟩)
 have hf:H1 s1.heap.objs.size=none:=I1.hok.fresh (È _);refine⟨.ref s1.heap.objs.size,upd H1 s1.heap.objs.size (.lst xs),I1.laid (t':=s1.toks) (λb u e=>Ä _ e) (È _) ?_,rfl,q _ hf⟩;exact⟨z,us,0,r,Î _ rfl⟩
end
abbrev Sp:=List V->Hp->VK->XK->Prop
abbrev CXT:=List Env->Hp->Å->XK->Ã->Å->Prop
structure j82(P:Program)(w:World)(K:PySem.W.Frag)(mg:Str->Option Value)(base:Heap)(A:Around)(outer:List Env)(s:Shared)(H:Hp):Prop where
 frames:A.frames=some outer
 mod:Mod K mg base
 bs:∀ b o,base.get? b=some o->s.heap.get? b=some o/\H b=none
 bsz:base.objs.size<=s.heap.objs.size
 u01:s.heap.FunFrames base outer
 frf:∀ b∈frs outer,H b=none
 hok:HOk P w H s.heap
 bare:AllBare s.gens
def CE(outer:List Env)(P:à)(w:ö)(H:Hp)(s:Å)(Q:VK)(u:Ã)(s':Å):Prop :=
 ∃ v H',s'.os=s.os/\Ò2 s'.gens/\Un (frs outer) [] H H' s.heap s'.heap/\HOk P w H' s'.heap/\RelV v u/\Q v H'
def CR(CX:CXT)(outer:List Env)(P:à)(w:ö)(H:Hp)(s:Å)(Q:VK)(E:XK)(r:Result)(s':Å):Prop :=
 match r with
 |.ok (.ret u)=>CE outer P w H s Q u s'|.ok _=>False|.error e=>CX outer H s E e s'
structure c51(P:Program)(w:World)(K:PySem.W.Frag)(mg:Str->Option Value)(base:Heap)(CX:CXT)(k:Nat)(f:Addr)(fd:FuncData)(ps:List Str)(sp:Sp):Prop where
 len:∀ vs H Q E,sp vs H Q E->vs.length=ps.length
 run:∀ (A:Around) (outer:List Env) (s:Shared) (H:Hp) (args:Args) (us:List Value) (vs:List V) (Q:VK) (E:XK),Q50 k A->j82 P w K mg base A outer s H->BindsTo s fd args (ps.zip us)->Vals vs us->sp vs H Q E ->
  codeAny (model P w) A (.call (.ref f) args) (CR CX outer P w H s Q E) s
section
variable {X:Cx}{pins:List (Ç × Obj)}{σ:St}{H:Hp}{s s':Å}
theorem Inv.B92(I:Inv X pins σ H s):j82 X.prog X.w X.K X.mg X.base X.A X.stack s H :=
 ⟨I.ok.frames,I.ok.mod,I.bs,Ò I.ok.bsz I.sz,I.stack,I.Q90,I.hok,I.bare⟩
theorem Inv.after{Q:VK}{u:Ã}(I:Inv X pins σ H s)(h:CE X.stack X.prog X.w H s Q u s'):EP X pins σ Q u s':=by
 obtain⟨v,H',os,bare,un,hok,r,q⟩:=h;obtain⟨hh,g,d,t,os'⟩:=s';obtain rfl:os'=s.os:=os;exact⟨v,H',I.call (h':=hh) (g':=g) (d':=d) (t':=t) (ch:=[]) un hok bare (λb z=>absurd z (by simp)),r,q⟩
end
def n72(sp:Sp)(dvs:List V)(E:XK)(t:TA):TE:=λσ H Q=>t σ H λvs H1=>sp (vs++dvs) H1 Q E
def Binds(K:Â)(fd:È5)(ps:List Str)(ds:List Ã):Prop :=
 ∀ (s:Å) (us:List Ã),K.In s.heap->(us++ds).length=ps.length->BindsTo s fd ⟨us,[]⟩ (ps.zip (us++ds))
theorem Binds.all{K:Â}{fd:È5}{ps:List Str}(h:∀ us:List Ã,us.length=ps.length->bindArgs fd ⟨us,[]⟩=pure (ps.zip us)):Binds K fd ps []:=λs us _ hl=>by
 rw[append_nil] at hl ⊢;exact .of_eq (h us hl)
def Passes(CX:CXT)(X:Cx)(E:XK):Prop:=∀ (pins:List (Ç × Obj)) (σ:St) (H:Hp) (s:Å) (e:Ã) (s':Å),Inv X pins σ H s->CX X.stack H s E e s'->X.xe e s'
section
variable {X:Cx}{CX:CXT}{k:Nat}{f C:Ç}{fd:È5}{ps:List Str}{sp:Sp}{dvs:List V}{ds:List Ã}{E:XK}{x m:Str}{p pos apos:Pos}{e o:Í}{es:List Í}{ta:TE}{t:TA}
theorem X41{pins:List (Ç × Obj)}{σ:St}{H:Hp}{s:Å}{Q:VK}{us:List Ã}{vs:List V}(F:c51 X.prog X.w X.K X.mg X.base CX k f fd ps sp)(hr:Q50 k X.A)(hb:Binds X.K fd ps ds)(hd:Vals dvs ds)(hx:Passes CX X E)
  (I:Inv X pins σ H s) (r:Vals vs us) (h:sp (vs++dvs) H Q E):Ï (Ô X.prog X.w) X.A (call (.ref f) us) (EP X pins σ Q) X.xe s:=by
 have r2:Vals (vs++dvs) (us++ds):=r.append hd;have hl:(us++ds).length=ps.length:=by rw[← r2.length];exact F.len _ _ _ _ h
 refine wpAny_call (Ñ9 (F.run X.A X.stack s H ⟨us,[]⟩ (us++ds) (vs++dvs) Q E hr I.B92 (hb s us I.kIn hl) r2 h) λr s' hq=>?_);cases r with
 |error e=>exact hx pins σ H s e s' I hq
 |ok fl =>
  cases fl with
  |ret u=>exact I.after hq|next=>exact Ä2 hq
  |brk=>exact Ä2 hq|cont=>exact Ä2 hq
theorem J01(F:c51 X.prog X.w X.K X.mg X.base CX k f fd ps sp)(hr:Q50 k X.A)(hg:Gl X x)(hm:X.mg x=some (.ref f))(hk:PySem.W.keepIn X.K (.ref f)=true)(hb:Binds X.K fd ps ds)(hd:Vals dvs ds)(hx:Passes CX X E)
  (ha:PA X (e::es) t) (hdb:(x == ("__debug__":Str))=false:=by decide) (he:ù (e::es) X.env=(false,eval e X.env)::ù es X.env:=by rfl) (hpl:(Ò0 pos (ù es X.env)).any (·.1)=false:=by rfl) :
  PE X (.Call (.Name x p) (e::es) [] pos) (n72 sp dvs E t):=by
 intro pins s σ H Q I h;refine Ö4 (R00 I hg hm ?_ hdb);refine PySem.W.callWith_K (h₀:=X.base) I.ok.mod.kin hk (thn (ha pos pins s σ H _ I h) λus s1 ⟨vs,H1,I1,r,q⟩=>⟨I1.kIn,?_⟩) he hpl;exact X41 F hr hb hd hx I1 r q
end
structure p50(N P:List Str)(sc:Scope):Prop where
 kind:sc.kind=.function
 co:sc.isCoroutine=false
 gen:sc.isGenerator=false
 nd:N.Nodup
 pre:N.take P.length=P
 par:∀ x∈P,sc.names.lookup x=some .local∨sc.names.lookup x=some .cell
 nofree:∀ y∈sc.names,y.2≠.free
theorem L70{kindOf:Str->Option Å7}{x:Str}:∀ {binds:List (Str × Ã)}{m:Str->Option Ã},(∀ v,(x,v) ∉ binds)->bindL kindOf binds m x=m x
 |[],_,_=>rfl
 |(n,v)::r,m,h=>by
  unfold bindL;rw[L70 λw hw=>h w (Ì _ hw)];split
  ·have:x≠n:=by rintro rfl;exact h v Ð
   simp[this]
  ·rfl
theorem L80{kindOf:Str->Option Å7}{x:Str}:∀ {binds:List (Str × Ã)}{m:Str->Option Ã},(∀ v,(x,v) ∉ binds)->bindC kindOf binds m x=m x
 |[],_,_=>rfl
 |(n,v)::r,m,h=>by
  unfold bindC;rw[L80 λw hw=>h w (Ì _ hw)];split
  ·rfl
  ·have:x≠n:=by rintro rfl;exact h v Ð
   simp[this]
theorem L90{kindOf:Str->Option Å7}{x:Str}{v:Ã}:∀ {P:List Str}{vs:List Ã}{i:Nat}{m:Str->Option Ã},P.Nodup->P[i]?=some x->vs[i]?=some v->kindOf x=some .local ->
  bindL kindOf (P.zip vs) m x=some v
 |[],_,_,_,_,h,_,_=>by simp at h|_::_,[],_,_,_,_,h,_=>by simp at h
 |p::P,w::vs,0,m,nd,h1,h2,hk=>by
  simp at h1 h2;subst h1;subst h2;show bindL kindOf ((p,w)::P.zip vs) m p=_;unfold bindL;rw[L70 λv hv=>(Ð1.mp nd).1 (of_mem_zip hv).1,if_pos hk];simp
 |p::P,w::vs,i + 1,m,nd,h1,h2,hk=>by
  show bindL kindOf ((p,w)::P.zip vs) m x=_;unfold bindL;exact L90 (i:=i) (Ð1.mp nd).2 (by simpa using h1) (by simpa using h2) hk
theorem M00{kindOf:Str->Option Å7}{x:Str}{v:Ã}:∀ {P:List Str}{vs:List Ã}{i:Nat}{m:Str->Option Ã},P.Nodup->P[i]?=some x->vs[i]?=some v->kindOf x≠some .local ->
  bindC kindOf (P.zip vs) m x=some v
 |[],_,_,_,_,h,_,_=>by simp at h|_::_,[],_,_,_,_,h,_=>by simp at h
 |p::P,w::vs,0,m,nd,h1,h2,hk=>by
  simp at h1 h2;subst h1;subst h2;show bindC kindOf ((p,w)::P.zip vs) m p=_;unfold bindC;rw[L80 λv hv=>(Ð1.mp nd).1 (of_mem_zip hv).1,if_neg hk];simp
 |p::P,w::vs,i + 1,m,nd,h1,h2,hk=>by
  show bindC kindOf ((p,w)::P.zip vs) m x=_;unfold bindC;exact M00 (i:=i) (Ð1.mp nd).2 (by simpa using h1) (by simpa using h2) hk
def start(N:List Str)(vs:List V):St:=vs.map some++Õ (N.length - vs.length) none
def M10(CX:CXT)(P:à)(w:ö)(K:Â)(mg:Str->Option Ã)(base:í)(N:List Str)(qual:Str)(scope:À9)(f:Ç)(cd:Ã)(A:þ)(outer:List Env)(s:Å)(H:Hp)(E:XK):Cx where
 prog:=P
 w:=w
 K:=K
 mg:=mg
 base:=base
 A:=A.deeper (Ô3 qual scope s.heap.objs.size f cd)
 N:=N
 s₀:=s
 H₀:=H
 env:=Ô3 qual scope s.heap.objs.size f cd
 outer:=outer
 stack:=Ô3 qual scope s.heap.objs.size f cd::outer
 ex:=[]
 calm:=true
 fn:=λ_=>true
 pn:=[]
 xe:=λe s'=>Ï (Ô P w) (A.deeper (Ô3 qual scope s.heap.objs.size f cd)) (leaving (Ô3 qual scope s.heap.objs.size f cd) e) (λ_ s''=>CX outer H s E e s'') (λe' s''=>CX outer H s E e' s'') s'
theorem W80{sc:À9}{n:Nat}{x:Str}(h:sc.names.lookup x=some .cell):∃ c,(Æ7 n sc.names []).lookup x=some c:=by
 have q:=Ú8 sc.names n [] (.inl h);exact Ú3.mp q
theorem g71{CX:CXT}{P:à}{w:ö}{K:Â}{mg:Str->Option Ã}{base:í}{N ps:List Str}{qual:Str}{scope:À9}{f:Ç}{cd:Ã}{A:þ}{outer:List Env}{s s1:Å}{H:Hp}{E:XK}{us:List Ã}{vs:List V}
  (S:p50 N ps scope) (hd:A.handled=none) (e0:j82 P w K mg base A outer s H) (hl:vs.length=ps.length) (r:Vals vs us)
  (x:InCallC s s.heap.objs.size (bindL (Ô3 qual scope s.heap.objs.size f cd).kindOf (ps.zip us) λ_=>none) (Æ7 (s.heap.objs.size + 1) scope.names []) (bindC (Ô3 qual scope s.heap.objs.size f cd).kindOf (ps.zip us) λ_=>none) s1) :
  Inv (M10 CX P w K mg base N qual scope f cd A outer s H E) [] (start N vs) H s1:=by
 have hpl:ps.length<=N.length:=by have:=congrArg Ø3 S.pre;rw[Å4] at this;omega
 obtain⟨h1,tk,rfl,hk⟩:=x.done;have noA:∀ b:Ç,b ∉ (M10 CX P w K mg base N qual scope f cd A outer s H E).ex:=λb z=>absurd (show b∈([]:List Ç) from z) (by simp)
 refine⟨⟨e0.mod,S.kind,rfl,rfl,È _,λy z c h1 h2=>?_,λy hy=>?_,λy c _ h=>?_,λ_=>hd,þ.frames_deeper e0.frames,.inr ⟨rfl,rfl⟩,λb z=>absurd z (noA b),e0.bs,e0.bsz,λb _ _=>noA b,λb z=>absurd z (noA b),e0.u01,e0.frf⟩,
  rfl,e0.bare,Un.kept hk,⟨_,x.toInCall.ns,λi y v h1 h2 h3=>?_⟩,λy c h=>⟨_,x.cell y c h⟩,e0.hok.fresh (È _),λy c h=>?_,λp hp=>absurd (show p∈([]:List (Ç × Obj)) from hp) (by simp),e0.hok.kept hk,?_⟩
 ·exact name_of_addr x.apart (Â9 h1) (Â9 h2)
 ·have hy:scope.names.lookup y=some .cell∨scope.names.lookup y=some .free:=hy;rcases hy with hy | hy
  ·exact W80 hy
  ·exact absurd rfl (S.nofree _ (Â9 hy))
 ·exact Ä1 (x.above y c (Â9 h))
 ·have hi:i < vs.length:=by
   unfold start at h2;by_cases hi:i < vs.length
   ·exact hi
   ·rw[Ã2 (by simpa using hi)] at h2
    rw[È4] at h2;split at h2 <;> cases h2
  have ha:vs[i]?=some v:=by
   unfold start at h2;rw[Í0 (by simpa using hi),Û] at h2
   cases e:vs[i]? with
   |none=>rw[e] at h2;cases h2
   |some a=>rw[e] at h2;cases h2;rfl
  obtain⟨u,hu,rv⟩:=r.get ha;have hp:ps[i]?=some y:=by
   rw[← S.pre,List.getElem?_take_of_lt ∅];exact h1
  have ndP:ps.Nodup:=by rw[← S.pre];exact S.nd.sublist (List.take_sublist _ _)
  refine⟨u,rv,?_⟩;rcases S.par y (ò hp) with k | k
  ·exact .inl ⟨k,L90 ndP hp hu k⟩
  ·obtain⟨c,e⟩:=W80 (n:=s.heap.objs.size + 1) k;refine .inr ⟨.inl k,c,e,?_⟩;have q:=x.cell y c e;rw[M00 ndP hp hu (by show scope.names.lookup y≠_;rw[k];decide)] at q
   exact q
 ·exact e0.hok.fresh (Ä1 (x.above y c (Â9 h)))
 ·unfold start;show _=N.length;rw[Ã1,Ë,Ð7];omega
theorem n82{CX:CXT}{P:à}{w:ö}{K:Â}{mg:Str->Option Ã}{base:í}{k:Nat}{f:Ç}{name qual:Str}{params:Arguments}{body:List Å6}{scope:À9}{dV kV doc pm cdv ct oc:Ã}{an od:Option Ç}
  {osl:Array (Option Ã)}{N ps:List Str}{sp:Sp} (lk:K.lookup f=some ⟨oc,od,.func (fnOf name qual params body scope dV kV doc pm an cdv ct),osl⟩) (hcd:PySem.W.codeIn K cdv qual=true) (S:p50 N ps scope)
  (len:∀ vs H Q E,sp vs H Q E->vs.length=ps.length)
  (hbody:∀ (A:þ) (outer:List Env) (s:Å) (H:Hp) (vs:List V) (Q:VK) (E:XK),Q50 k (A.deeper (Ô3 qual scope s.heap.objs.size f cdv))->sp vs H Q E ->
   ∃ t,PSs (M10 CX P w K mg base N qual scope f cdv A outer s H E) body t/\t { nx:=λ_ H'=>Q .non H',rt:=Q } (start N vs) H) :
  c51 P w K mg base CX (k + 1) f (fnOf name qual params body scope dV kV doc pm an cdv ct) ps sp:=by
 refine⟨len,λA outer s H args us vs Q E hr e0 hb r hsp=>?_⟩;have hl:=len _ _ _ _ hsp;have KX:K.In s.heap:=e0.mod.kin.keeps λb o e=>(e0.bs b o e).1;have lim:s.heap.NoLimit:=e0.mod.nolimit.keeps λb o e=>(e0.bs b o e).1;have hkind:∀ y∈ps.zip us,scope.names.lookup y.1=some .local∨(scope.names.lookup y.1=some .cell/\((Æ7 (s.heap.objs.size + 1) scope.names []).lookup y.1).isSome=true):=λ⟨n,v⟩ hy=>by
  rcases S.par n (of_mem_zip hy).1 with q | q
  ·exact .inl q
  ·exact .inr ⟨q,Ú8 _ _ _ (.inl q)⟩
 refine codeAny_call_function hr.depth (KX _ _ lk) rfl S.co S.gen rfl (PySem.W.codeRec_of KX hcd) (hb _ _ _ _ ?_);refine wpAny_newFunctionEnv_cells S.kind hkind λenv he s1 x=>?_;subst he;refine⟨lim.keeps x.toInCall.keep,codeAny_func ?_⟩;obtain⟨t,ht,hq⟩:=hbody A outer s H vs Q E (hr.deeper _) hsp;have I:Inv (M10 CX P w K mg base N qual scope f cdv A outer s H E) [] (start N vs) H s1:=g71 S hr.hd e0 hl r x;refine Ã8 (ht [] s1 (start N vs) H _ I hq) (λfl s' hs=>?_) λe s' hs=>hs;have fin:∀ {σ':St}{H':Hp}{v:V}{u:Ã},Inv (M10 CX P w K mg base N qual scope f cdv A outer s H E) [] σ' H' s'->RelV v u->Q v H'->CE outer P w H s Q u s' :=
  λ{σ' H' v u} J rv q=>⟨v,H',J.os,J.bare,J.base,J.hok,rv,q⟩
 cases fl with
 |ret u =>
  obtain⟨v,σ',H',J,rv,q⟩:=hs;exact fin J rv q
 |next =>
  obtain⟨σ',H',J,q⟩:=hs;exact fin (v:=V.non) (u:=á) J rfl q
 |brk =>
  obtain⟨_,_,_,q⟩:=hs;exact Ä2 q
 |cont =>
  obtain⟨_,_,_,q⟩:=hs;exact Ä2 q
section
variable {X:Cx}{x:Str}{p pos:Pos}{e:Í}{es:List Í}{t:TA}{id T:String}{r:List V->Hp->VK->Prop}
def tCB(r:List V->Hp->VK->Prop)(t:TA):TE:=λσ H Q=>t σ H λvs H1=>r vs H1 Q
theorem F50(hc:f70 X (.builtin id) r)(hg:Gl X x)(hm:X.mg x=none)(hv:ë x=some (.builtin id))(ha:PA X (e::es) t)(hn:x≠"__name__":=by decide)(hdb:(x == ("__debug__":Str))=false:=by decide)
  (he:ù (e::es) X.env=(false,eval e X.env)::ù es X.env:=by rfl) (hpl:(Ò0 pos (ù es X.env)).any (·.1)=false:=by rfl):PE X (.Call (.Name x p) (e::es) [] pos) (tCB r t):=by
 intro pins s σ H Q I h;refine Ö4 (r40 I hg hm hv ?_ hn hdb);exact PyProof.Rows.callWith_builtin1 (thn (ha pos pins s σ H _ I h) λus s1 ⟨vs,H1,I1,r1,q1⟩=>hc pins s1 σ H1 vs us Q I1 r1 q1) he hpl
theorem g81(hc:f70 X (.type T) r)(hg:Gl X x)(hm:X.mg x=none)(hv:ë x=some (.type T))(ha:PA X (e::es) t)(hn:x≠"__name__":=by decide)(hdb:(x == ("__debug__":Str))=false:=by decide)
  (he:ù (e::es) X.env=(false,eval e X.env)::ù es X.env:=by rfl) (hpl:(Ò0 pos (ù es X.env)).any (·.1)=false:=by rfl):PE X (.Call (.Name x p) (e::es) [] pos) (tCB r t):=by
 intro pins s σ H Q I h;refine Ö4 (r40 I hg hm hv ?_ hn hdb);exact ÿ (thn (ha pos pins s σ H _ I h) λus s1 ⟨vs,H1,I1,r1,q1⟩=>hc pins s1 σ H1 vs us Q I1 r1 q1) he hpl
end
end L2
namespace HT
open PySem PyProof.Rows
theorem v21(A:þ)(s:Å)(a:Int)(t:Tok)(c:Int)(u:Tok):∃ e,Ó2 A s (.int a t) (.int c u) e/\(e=true↔a=c) :=
 ⟨(a == c),Ó2.int_int a t c u,by simp⟩
theorem W90(A:þ)(s:Å)(a:Int)(t:Tok)(c:Int)(u:Tok)(prog:à)(w:ö)(E:Ã->Å->Prop)(Q:Ã->Å->Prop)(h:Q (.bool (decide (a < c))) s) :
  Ï (Ô prog w) A (richCompare .Lt (.int a t) (.int c u)) Q E s :=
 (lt_int h:Ï (Ô prog w) A (ñ .Lt (.int a t) (.int c u)) Q E s)
section
variable {prog:à}{w:ö}{A:þ}{E:Ã->Å->Prop}{s:Å}
theorem J11{t b:Ç}{vs ws:List Ã}{Q:Ã->Å->Prop}(ht:Ê5 s.heap t vs.toArray)(hb:Ê5 s.heap b ws.toArray)(hv:vs≠[])
  (h1:ws=[]->Q (.ref t) s) (h2:ws≠[]->Q (.ref s.heap.objs.size) { s with heap:=s.heap.push { cls:=.type "tuple",data:=.seq (vs++ws).toArray } })
  (hsz:vs.length + ws.length<=sizeLine):Ï (Ô prog w) A (Â8 .Add (.ref t) (.ref b)) Q E s:=by
 obtain⟨⟨cls,dd,data,sl⟩,ho,hc,n,hd⟩:=id ht;obtain⟨⟨cls2,dd2,data2,sl2⟩,ho2,hc2,n2,hd2⟩:=id hb;simp only at hc hd hc2 hd2;subst hc hd hc2 hd2;have e:vs.toArray++ws.toArray=(vs++ws).toArray:=by simp
 by_cases hw:ws=[]
 ·exact concat_meets ⟨_,ho,rfl⟩ ⟨_,ho2,rfl⟩ Ú6 seq_tuple_add Î0 Í3 (Ì4 _ _)
   (tuple_addW1 t b vs.toArray ws.toArray n n2 dd dd2 sl sl2 (by simpa using hv) (by simp[hw])) ⟨ho,ho2,h1 hw⟩
 ·refine concat_meets ⟨_,ho,rfl⟩ ⟨_,ho2,rfl⟩ Ú6 seq_tuple_add Î0 Í3 (Ì4 _ _)
   (tuple_addW2 t b vs.toArray ws.toArray n n2 dd dd2 sl sl2 (by simpa using hv) (by simpa using hw) (by rw[Ó,Ó];exact hsz)) ⟨ho,ho2,?_⟩
  rw[e];exact h2 hw
def sIx(n d:Nat):Option Int->Nat
 |none=>d|some v=>if v < 0 then(v + (n:Int)).toNat else min v.toNat n
theorem g91(n d k:Nat):sIx n d (some (k:Int))=min k n:=by
 show(if (k:Int) < 0 then((k:Int) + (n:Int)).toNat else min (k:Int).toNat n)=min k n;rw[if_neg ∅,À7]
theorem X51(n d:Nat)(hd:d<=n)(o:Option Int):sIx n d o<=n:=by
 cases o with
 |none=>exact hd
 |some v =>
  show(if v < 0 then(v + (n:Int)).toNat else min v.toNat n)<=n;by_cases hv:v < 0
  ·rw[if_pos hv];omega
  ·rw[if_neg hv];exact Nat.min_le_right _ _
theorem h01(v:Int)(n d:Nat):(if v < 0 then max (v + (n:Int)) 0 else min v (n:Int))=((sIx n d (some v):Nat):Int):=by
 show(if v < 0 then max (v + (n:Int)) 0 else min v (n:Int))=(((if v < 0 then(v + (n:Int)).toNat else min v.toNat n):Nat):Int);by_cases hv:v < 0
 ·simp only[if_pos hv];omega
 ·simp only[if_neg hv];omega
theorem c61(lo hi:Option Int)(n:Nat):Ê1 lo hi 1 (n:Int)=(((sIx n 0 lo:Nat):Int),((sIx n n hi:Nat):Int)):=by
 have h1:¬ ((1:Int) < 0):=by omega
 unfold Ê1;simp only[h1,if_false];refine Prod.ext ?_ ?_
 ·cases lo with
  |none=>rfl|some v=>exact h01 v n 0
 ·cases hi with
  |none=>rfl|some v=>exact h01 v n n
theorem c71(i j:Nat):Ç0 (i:Int) (j:Int) 1=j - i:=by
 unfold Ç0;have h1:(1:Int) > 0:=by omega
 simp only[h1,if_true,Int.ediv_one];split <;> omega
theorem D40{v:Ã}{o:Option Int}{Q:Option Int->Å->Prop}(p:Ô9 v o)(h:Q o s):Ï (Ô prog w) A (Å2.Slice.slicePartIndex v) Q E s:=by
 cases p with
 |none=>exact Ô1 h|int i t=>exact slicePart_int h
theorem l40{sl:Ç}{vl vu:Ã}{lo hi:Option Int}{n:Nat}{Q:Int × Int × Nat->Å->Prop}(hs:s.heap.IsSliceOf sl vl vu .none)(pl:Ô9 vl lo)(pu:Ô9 vu hi)
  (h:Q (((sIx n 0 lo:Nat):Int),1,sIx n n hi - sIx n 0 lo) s):Ï (Ô prog w) A (Ð5 (.ref sl) (pure (n:Int))) Q E s:=by
 obtain⟨os,hos,hcs,hds⟩:=id hs;unfold Ð5 sliceFields;refine À (À (À2 hos hds (x:=vl) rfl (À (À2 hos hds (x:=vu) rfl (À (À2 hos hds (x:=.none) rfl (Æ ?_)))))));refine À (Ô1 ?_);show Ï _ _ (if ((1:Int) == 0)=true then _ else _) _ _ s;rw[if_neg (-0)]
 refine À (D40 pl (À (D40 pu (À (Æ ?_)))));show Ï _ _ (match Ê1 lo hi 1 (n:Int) with | (lo,hi)=>pure (lo,(1:Int),Ç0 lo hi 1)) _ _ s
 rw[c61 lo hi n];show Ï _ _ (pure (((sIx n 0 lo:Nat):Int),(1:Int),Ç0 ((sIx n 0 lo:Nat):Int) ((sIx n n hi:Nat):Int) 1)) _ _ s;rw[c71];exact Æ h
theorem v31(xs:Array Ã)(i k:Nat):((î k).filterMap λ(m:Nat)=>xs[((i:Int) + (m:Int) * 1).toNat]?).toArray=((xs.toList.drop i).take k).toArray:=by
 have e:(λ(m:Nat)=>xs[((i:Int) + (m:Int) * 1).toNat]?)=λm=>xs[i + m]?:=by
  funext m
  have:((i:Int) + (m:Int) * 1).toNat=i + m:=by omega
  rw[this]
 rw[e];have:=pick_run xs i k;rw[List.filterMap_map] at this;have e2:((λx=>xs[x]?) ∘ λx=>i + x)=λm=>xs[i + m]?:=rfl;rw[e2] at this;rw[this]
theorem u30{t sl:Ç}{items:Array Ã}{vl vu:Ã}{lo hi:Option Int}{Q:Ã->Å->Prop}(ht:Ê5 s.heap t items)(hs:s.heap.IsSliceOf sl vl vu .none)(pl:Ô9 vl lo)(pu:Ô9 vu hi)
  (hw:¬ (sIx items.size 0 lo=0/\sIx items.size items.size hi=items.size))
  (h:Q (.ref s.heap.objs.size) { s with heap:=s.heap.push { cls:=.type "tuple",data:=.seq ((items.toList.drop (sIx items.size 0 lo)).take (sIx items.size items.size hi - sIx items.size 0 lo)).toArray } })
  (hsz:items.size<=sizeLine):Ï (Ô prog w) A (Ï3 (.ref t) (.ref sl)) Q E s:=by
 have htake:sizeOk (.seq ((items.toList.drop (sIx items.size 0 lo)).take (sIx items.size items.size hi - sIx items.size 0 lo)).toArray):=by
  show((items.toList.drop (sIx items.size 0 lo)).take (sIx items.size items.size hi - sIx items.size 0 lo)).toArray.size<=sizeLine;rw[Ó,Å4,Í7,È0];omega
 have hj:sIx items.size items.size hi<=items.size:=X51 _ _ (È _) hi;obtain⟨os,hos,hcs,hds⟩:=id hs;have hTs:s.TypeIs (.ref sl) "slice":=⟨os,hos,hcs⟩;unfold Ï3
 try with_reducible refine Æ6 ?_
 first | refine À (Æ ?_) | skip
 refine À (Ù1 ht.typeIs (-0) ?_)
 refine À (Á5 (name:=À8 "__getitem__") ht.typeIs è
  (Ã7 è ht.typeIs entry_tuple_getitem ?_ (Ö7 _ _)))
 show Ï _ _ (tupleItemsOf (.ref t) >>= _) _ _ s;refine À (tupleItemsOf_ ht ?_);refine À (É5 hTs ?_);rw[if_pos (-0)]
 refine À (l40 hs pl pu ?_);have hno:¬ ((((sIx items.size 0 lo:Nat):Int) == 0&&(1:Int) == 1&&(sIx items.size items.size hi - sIx items.size 0 lo) == items.size)=true):=by
  intro q;rw[Á,Á] at q;have q1:((sIx items.size 0 lo:Nat):Int)=0:=eq_of_beq q.1.1;have q2:sIx items.size items.size hi - sIx items.size 0 lo=items.size:=eq_of_beq q.2;exact hw ⟨by omega,by omega⟩
 show Ï _ _ (if (((sIx items.size 0 lo:Nat):Int) == 0&&(1:Int) == 1&&(sIx items.size items.size hi - sIx items.size 0 lo) == items.size)=true then _ else _) _ _ s;rw[if_neg hno,v31]
 first
  |exact À (m:=Ä7 _) (å (Æ ⟨_,rfl,Æ h⟩) htake)
  |exact À (m:=Ä7 _) (å (À (Æ (Æ ⟨_,rfl,Æ h⟩))) htake)
  |exact À (À (m:=Ä7 _) (å (Æ (Æ ⟨_,rfl,Æ h⟩)) htake))
  |exact À (À (m:=Ä7 _) (å (Æ ⟨_,rfl,Æ h⟩) htake))
end
end HT
namespace L2
open PySem PySem.Spec PyProof.Rows
abbrev TO:=St->Hp->(Option Int->Hp->Prop)->Prop
def PO(X:Cx)(e:Option Í)(t:TO):Prop :=
 ∀ (pins:List (Ç × Obj)) (s:Å) (σ:St) (H:Hp) (Q:Option Int->Hp->Prop),Inv X pins σ H s->t σ H Q ->
  Ï (Ô X.prog X.w) X.A (evalPart e X.env) (λu s'=>∃ o H',Inv X pins σ H' s'/\Ô9 u o/\Q o H') X.xe s
def J21:TO:=λ_ H Q=>Q none H
def n92(t:TE):TO:=λσ H Q=>t σ H λx H1=>∃ i,x=.int i/\Q (some i) H1
theorem intsAre_of{ns:List Int}:∀ {us:List Ã},Vals (ns.map V.int) us->È7 us ns:=by
 induction ns with
 |nil=>intro us r;rw[map_nil] at r;cases r;exact .nil
 |cons n ns ih =>
  intro us r;rw[Ç9] at r;cases r with
  |cons r1 r2 =>
   obtain⟨t,e⟩:=r1;subst e;exact .cons n t (ih r2)
section
variable {X:Cx}{e:Í}{te:TE}{lo hi:Option Í}{tl th:TO}{pos p2:Pos}
theorem J31:PO X none J21:=by
 intro pins s σ H Q I h;rw[evalPart_none];exact Æ ⟨none,H,I,.none,h⟩
theorem J41(h:PE X e te):PO X (some e) (n92 te):=by
 intro pins s σ H Q I hw;rw[evalPart_some];refine thn (h pins s σ H _ I hw) λu s1 ⟨x,H1,I1,r1,q1⟩=>?_;obtain⟨i,rfl,q⟩:=q1;obtain⟨t,rfl⟩:=r1;exact⟨some i,H1,I1,.int i t,q⟩
def SlR(X:Cx)(r:V->Option Int->Option Int->Hp->VK->Prop):Prop :=
 ∀ (pins:List (Ç × Obj)) (s:Å) (σ:St) (H:Hp) (x:V) (v vl vu:Ã) (lo hi:Option Int) (sl:Ç) (Q:VK),Inv X pins σ H s->RelV x v->s.heap.IsSliceOf sl vl vu .none->Ô9 vl lo->Ô9 vu hi->r x lo hi H Q ->
  ∃ T id,typeLookup (.type T) "__getitem__"=pure (some (.builtin id))/\s.TypeIs v T/\Ï (Ô X.prog X.w) X.A (Ï3 v (.ref sl)) (EP X pins σ Q) X.xe s
def tSl(r:V->Option Int->Option Int->Hp->VK->Prop)(te:TE)(tl th:TO):TE:=λσ H Q=>te σ H λx H1=>tl σ H1 λl H2=>th σ H2 λu H3=>r x l u H3 Q
theorem v41{r:V->Option Int->Option Int->Hp->VK->Prop}(hr:SlR X r)(he:PE X e te)(hl:PO X lo tl)(hu:PO X hi th):PE X (.Subscript e (.Slice lo hi none p2) pos) (tSl r te tl th):=by
 intro pins s σ H Q I h;refine Subscript_ (thn (he pins s σ H _ I h) λv s1 ⟨x,H1,I1,r1,q1⟩=>?_);refine wpAny_Slice (thn (hl pins s1 σ H1 _ I1 q1) λvl s2 ⟨l,H2,I2,pl,q2⟩=>thn (hu pins s2 σ H2 _ I2 q2) λvu s3 ⟨u,H3,I3,pu,q3⟩=>?_);rw[evalPart_none];refine Æ ?_;have I4:Inv X pins σ H3 { s3 with heap:=s3.heap.push { cls:=.type "slice",data:=.fields #[vl,vu,.none] } }:=I3.kept (t':=s3.toks) λb ob q=>Ä _ q;obtain⟨T,id,hT,ht,hg⟩:=hr pins { s3 with heap:=s3.heap.push { cls:=.type "slice",data:=.fields #[vl,vu,.none] } } σ H3 x v vl vu l u s3.heap.objs.size Q I4 r1 (Î8 ..) pl pu q3;show Ï (Ô X.prog X.w) X.A (subscriptTail e (.Slice lo hi none p2) v (.ref s3.heap.objs.size)) (EP X pins σ Q) X.xe { s3 with heap:=s3.heap.push { cls:=.type "slice",data:=.fields #[vl,vu,.none] } };exact tail_any (ops:=[.ref s3.heap.objs.size,v]) ht hT hg (by with_unfolding_all rfl)
def v51(xs:List V)(lo hi:Option Int):List V:=(xs.drop (HT.sIx xs.length 0 lo)).take (HT.sIx xs.length xs.length hi - HT.sIx xs.length 0 lo)
theorem z30(xs:List V)(lo hi:Option Int):(v51 xs lo hi).length<=xs.length:=by
 unfold v51;rw[Å4,Í7];omega
theorem Vals.F60{xs:List V}{us:List Ã}(r:Vals xs us):us=[]↔xs=[]:=by
 cases r with
 |nil=>simp|cons _ _=>simp
end
def ixN(n:Nat)(i:Int):Option Nat:=if 0<=i then(if i < n then some i.toNat else none) else if -(n:Int)<=i then some (i + n).toNat else none
def atI{α:Type}(xs:List α)(i:Int):Option α:=(ixN xs.length i).bind λj=>xs[j]?
theorem h31{n:Nat}{i:Int}{j:Nat}(h:ixN n i=some j):seqIndex? i n=some j/\j < n/\-(n:Int)<=i/\i < n:=by
 unfold ixN at h;by_cases h0:0<=i
 ·rw[if_pos h0] at h;by_cases h1:i < n
  ·rw[if_pos h1] at h;have e:i.toNat=j:=ý h;exact⟨by rw[Û4 h0 h1,e],by omega,by omega,h1⟩
  ·rw[if_neg h1] at h;cases h
 ·rw[if_neg h0] at h;by_cases h1:-(n:Int)<=i
  ·rw[if_pos h1] at h;have e:(i + n).toNat=j:=ý h;exact⟨by rw[seqIndex_neg ∅ h1,e],by omega,h1,by omega⟩
  ·rw[if_neg h1] at h;cases h
theorem R30{α:Type}{xs:List α}{i:Int}{v:α}(h:atI xs i=some v):∃ j,seqIndex? i xs.length=some j/\xs[j]?=some v/\j < xs.length/\-(xs.length:Int)<=i/\i < xs.length:=by
 unfold atI at h;cases e:ixN xs.length i with
 |none=>rw[e] at h;cases h
 |some j =>
  rw[e] at h;obtain⟨h1,h2,h3,h4⟩:=h31 e;exact⟨j,h1,h,h2,h3,h4⟩
theorem z40{α:Type}{xs:List α}{j:Nat}{v:α}(h:xs[j]?=some v):atI xs (j:Int)=some v:=by
 have hj:j < xs.length:=(Þ.mp h).1;have e:ixN xs.length (j:Int)=some j:=by
  unfold ixN;rw[if_pos ∅,if_pos ∅];simp
 unfold atI;rw[e];exact h
def h41(b:Í):Prop:=∀ o i,subscripted b false o i=operate [o,i] (Ï3 o i)
def IxR(X:Cx)(r:R2):Prop :=
 ∀ (value slice:Í) (pins:List (Ç × Obj)) (s:Å) (σ:St) (H:Hp) (x y:V) (v u:Ã) (Q:VK),Inv X pins σ H s->RelV x v->RelV y u->r x y H Q ->
  subscripted slice false v u=operate [v,u] (Ï3 v u)->Ï (Ô X.prog X.w) X.A (subscriptTail value slice v u) (EP X pins σ Q) X.xe s
def MtR(X:Cx)(id:String)(r:V->List V->Hp->VK->Prop):Prop :=
 ∀ (pins:List (Ç × Obj)) (s:Å) (σ:St) (H:Hp) (x:V) (xs:List V) (v:Ã) (us:List Ã) (Q:VK),Inv X pins σ H s->RelV x v->Vals xs us->r x xs H Q ->
  Ï (Ô X.prog X.w) X.A (call (.builtin id) (v::us)) (EP X pins σ Q) X.xe s
section
variable {X:Cx}{a b:Í}{ta tb:TE}{pos:Pos}
theorem X61{r:R2}(hr:IxR X r)(ha:PE X a ta)(hb:PE X b tb)(hs:h41 b):PE X (.Subscript a b pos) (tOp r ta tb):=by
 intro pins s σ H Q I h;exact Subscript_ (m82 ha hb I h λv u s2 x y H2 I2 rx ry q=>hr a b pins s2 σ H2 x y v u Q I2 rx ry q (hs _ _))
def x92(K:Â):R2:=λx y H Q=>∃ p xs i v,x=.ref p/\y=.int i/\SqL K H p xs/\atI xs i=some v/\Q v H
def C02(K:Â):R2:=λx y H Q=>∃ p xs i v,x=.ref p/\y=.int i/\SqT K H p xs/\atI xs i=some v/\Q v H
theorem h51:IxR X (x92 X.K):=by
 intro value slice pins s σ H x y v u Q I rx ry h hs;obtain⟨p,xs,i,z,rfl,rfl,hq,he,q⟩:=h;cases rx;obtain⟨t,rfl⟩:=ry;obtain⟨its,r,pl,hz⟩:=I.list hq;obtain⟨j,h1,h2,h3,h4,h5⟩:=R30 he;obtain⟨w,ew,rw'⟩:=r.get h2;have hl:=r.length;have hn:=L40;have fin:EP X pins σ Q w s:=⟨z,H,I,rw',q⟩;by_cases h0:0<=i
 ·have hj:i.toNat=j:=by
   rw[Û4 h0 h5] at h1;exact ý h1
  exact item_listR pl.isList h0 ∅ (by rw[hj];simpa using ew) fin hs
 ·have hj:(i + (its.toArray.size:Int)).toNat=j:=by
   rw[seqIndex_neg ∅ h4] at h1
   rw[Ó,← hl];exact ý h1
  exact subscriptTail_builtinR (x:=w) pl.isList.typeIs slot_list_getitem.lookup
   (wpAny_getItem_list_neg (Q:=λr s'=>r=w/\EP X pins σ Q r s') pl.isList ∅ (by rw[Ó] <;> omega) ∅ (by rw[hj];simpa using ew) ⟨rfl,fin⟩) hs
theorem X71:IxR X (C02 X.K):=by
 intro value slice pins s σ H x y v u Q I rx ry h hs;obtain⟨p,xs,i,z,rfl,rfl,hq,he,q⟩:=h;cases rx;obtain⟨t,rfl⟩:=ry;obtain⟨its,r,pl,hz⟩:=I.tuple hq;obtain⟨j,h1,h2,h3,h4,h5⟩:=R30 he;obtain⟨w,ew,rw'⟩:=r.get h2;have hl:=r.length;have hn:=L40;have fin:EP X pins σ Q w s:=⟨z,H,I,rw',q⟩;exact subscriptTail_builtinR (x:=w) pl.typeIs slot_tuple_getitem.lookup
  (getItem_tuple (j:=j) (Q:=λr s'=>r=w/\EP X pins σ Q r s') pl ∅ ∅ (by rw[Ó,← hl];exact h1) (by simpa using ew) ⟨rfl,fin⟩) hs
theorem c81(its:List Ã)(n j:Nat)(u:Ã):À3 (·.setIfInBounds j u) { cls:=.type "list",data:=.seq its.toArray n }={ cls:=.type "list",data:=.seq (its.set j u).toArray n }:=by
 simp[À3]
theorem Inv.lst{pins:List (Ç × Obj)}{σ:St}{H:Hp}{s:Å}{p:Ç}{xs:List V}(I:Inv X pins σ H s)(h:H p=some (.lst xs)) :
  ∃ (its:List Ã) (n:Nat),Vals xs its/\s.heap.get? p=some { cls:=.type "list",data:=.seq its.toArray n }/\xs.length<=sizeLine:=by
 obtain⟨z,its,n,r,e⟩:=I.hok p _ h;exact⟨its,n,r,e,z⟩
theorem Inv.X81{pins:List (Ç × Obj)}{σ:St}{H:Hp}{s:Å}{p:Ç}{xs ys:List V}{its its':List Ã}{n n':Nat}{f:Obj->Obj}(I:Inv X pins σ H s)(h:H p=some (.lst xs))
  (ho:s.heap.get? p=some { cls:=.type "list",data:=.seq its.toArray n }) (hf:f { cls:=.type "list",data:=.seq its.toArray n }={ cls:=.type "list",data:=.seq its'.toArray n' }) (r:Vals ys its') (hz:ys.length<=sizeLine) (t:Nat) :
  Inv X pins σ (upd H p (.lst ys)) { s with heap:=s.heap.update p f,toks:=t }:=by
 have e:(s.heap.update p f).get? p=some { cls:=.type "list",data:=.seq its'.toArray n' }:=by
  rw[Ü8 f ho (by rw[hf] <;> rfl),hf]
 refine I.write (x:=p) (e:=p) (by rw[h];trivial) (.inl rfl) (λb u hb q=>(Ü3 _ _ (À4 hb)).trans q) ⟨_,e⟩ ?_
 exact⟨hz,its',n',r,e⟩
def o02:V->V->V->Hp->(Hp->Prop)->Prop:=λo i v H Q=>∃ p xs k j,o=.ref p/\i=.int k/\H p=some (.lst xs)/\ixN xs.length k=some j/\Q (upd H p (.lst (xs.set j v)))
theorem set_list:m32 X o02:=by
 intro pins s σ H o i v ov iv u Q I ro ri rv h;obtain⟨p,xs,k,j,rfl,rfl,hp,hj,q⟩:=h;cases ro;obtain⟨t,rfl⟩:=ri;obtain⟨its,n,r,ho,hz⟩:=I.lst hp;obtain⟨h1,h2,h3,h4⟩:=h31 hj;have hl:=r.length;have hn:=L40;have I':Inv X pins σ (upd H p (.lst (xs.set j v))) { s with heap:=s.heap.update p (À3 (·.setIfInBounds j u)) } :=
  I.X81 hp ho (c81 its n j u) (r.set rv j) (by rw[Â6];exact hz) s.toks
 by_cases h0:0<=k
 ·have hk:k.toNat=j:=by
   rw[Û4 h0 h4] at h1;exact ý h1
  exact PySem.W.ki_setAt ho h0 ∅ (by rw[Ó,← hl];exact h4) (by rw[hk];exact⟨_,I',q⟩)
 ·have hk:(k + (its.toArray.size:Int)).toNat=j:=by
   rw[seqIndex_neg ∅ h3] at h1
   rw[Ó,← hl];exact ý h1
  exact PySem.W.ki_setBack ho ∅ (by rw[Ó,← hl];exact h3) ∅ (by rw[hk];exact⟨_,I',q⟩)
theorem M20(lo hi:Option Int)(n:Nat):(Ë2 lo hi none n).1=((HT.sIx n 0 lo:Nat):Int)/\(Ë2 lo hi none n).2.1=((HT.sIx n n hi:Nat):Int)/\(Ë2 lo hi none n).2.2=1:=by
 refine⟨?_,?_,rfl⟩
 ·cases lo with
  |none=>simp[Ë2,HT.sIx]
  |some i =>
   simp only[Ë2,HT.sIx,getD_none,show(1:Int) > 0 by decide,if_true]
   by_cases h:i < 0
   ·simp only[h,if_true] <;> omega
   ·simp only[h,if_false] <;> omega
 ·cases hi with
  |none=>simp[Ë2,HT.sIx]
  |some i =>
   simp only[Ë2,HT.sIx,getD_none,show(1:Int) > 0 by decide,if_true]
   by_cases h:i < 0
   ·simp only[h,if_true] <;> omega
   ·simp only[h,if_false] <;> omega
theorem F70(its:List Ã)(lo hi:Option Int):slicePick its.toArray lo hi none=((its.drop (HT.sIx its.length 0 lo)).take (HT.sIx its.length its.length hi - HT.sIx its.length 0 lo)).toArray:=by
 obtain⟨h1,h2,h3⟩:=M20 lo hi its.toArray.size;unfold slicePick;rw[h1,h2,h3];simp only[sliceRange_one,pick_run,Ó] <;> rfl
def C12(K:Â):V->Option Int->Option Int->Hp->VK->Prop:=λx lo hi H Q=>∃ a xs,x=.ref a/\SqL K H a xs/\∀ p,H p=none->Q (.ref p) (upd H p (.lst (v51 xs lo hi)))
theorem J51:SlR X (C12 X.K):=by
 intro pins s σ H x v vl vu lo hi sl Q I rx hs pl pu h;obtain⟨a,xs,rfl,hx,q⟩:=h;cases rx;obtain⟨its,r,ht,hz⟩:=I.list hx;have hlen:=r.length;refine⟨"list",_,slot_list_getitem.lookup,ht.isList.typeIs,?_⟩;refine wpAny_getItem_list_slice ht.isList hs pl pu .none (by simp) ?_ (by rw[Ó] <;> omega)
 rw[F70,← hlen];refine⟨.ref s.heap.objs.size,_,I.laid (t':=s.toks) (o:=.lst (v51 xs lo hi)) (λb ob q=>Ä _ q) (È _) ?_,rfl,q _ (I.hok.fresh (È _))⟩;exact⟨Ò (z30 xs lo hi) hz,_,0,(r.drop (HT.sIx xs.length 0 lo)).take (HT.sIx xs.length xs.length hi - HT.sIx xs.length 0 lo),Î _ rfl⟩
theorem M30:f70 X (.builtin "len") (λxs H Q=>∃ p ys,xs=[.ref p]/\(SqL X.K H p ys∨SqT X.K H p ys)/\Q (.int ys.length) H):=by
 intro pins s σ H xs us Q I r h;obtain⟨p,ys,rfl,hq,q⟩:=h;obtain⟨u,rfl,rx⟩:=vals1 r;cases rx;have hn:=L40;rcases hq with hq | hq
 ·obtain⟨its,r',pl,hz⟩:=I.list hq;have hlen:=r'.length;exact Calls.call_len_list pl.isList (by simp only[Ó] <;> omega) ⟨.int ys.length,H,I.tok _,⟨s.toks + 1,by rw[Ó,hlen]⟩,q⟩
 ·obtain⟨its,r',pl,hz⟩:=I.tuple hq;have hlen:=r'.length;exact len_tuple pl (by simp only[Ó] <;> omega) ⟨.int ys.length,H,I.tok _,⟨s.toks + 1,by rw[Ó,hlen]⟩,q⟩
theorem M40:f70 X (.type "list") (λxs H Q=>∃ p ys,xs=[.ref p]/\(SqL X.K H p ys∨SqT X.K H p ys)/\∀ l,H l=none->Q (.ref l) (upd H l (.lst ys))):=by
 intro pins s σ H xs us Q I r h;obtain⟨p,ys,rfl,hq,q⟩:=h;obtain⟨u,rfl,rx⟩:=vals1 r;cases rx;have fin:∀ (its:List Ã),Vals ys its->ys.length<=sizeLine->∀ (h':í) (c':Nat),(∀ b o',s.heap.get? b=some o'->h'.get? b=some o') ->
   h'.get? s.heap.objs.size=some { cls:=.type "list",dict:=none,data:=.seq its.toArray c',slots:=#[] }->EP X pins σ Q (.ref s.heap.objs.size) { s with heap:=h' }:=λits r' hz h' c' kp e =>
  ⟨.ref s.heap.objs.size,_,I.laid (t':=s.toks) kp (È _) (show h60 X.prog X.w _ h' _ (.lst ys) from⟨hz,its,c',r',e⟩),rfl,q _ (I.hok.fresh (È _))⟩
 rcases hq with hq | hq
 ·obtain⟨its,r',pl,hz⟩:=I.list hq;have hlen:=r'.length;obtain⟨o,ho,hc,n,hd⟩:=pl.isList;exact call_list_seq p (.inl rfl) ho hc hd (λh' c' kp e=>fin its r' hz h' c' kp e) (by simp only[Ó] <;> omega)
 ·obtain⟨its,r',pl,hz⟩:=I.tuple hq;have hlen:=r'.length;obtain⟨o,ho,hc,n,hd⟩:=pl;exact call_list_seq p (.inr rfl) ho hc hd (λh' c' kp e=>fin its r' hz h' c' kp e) (by simp only[Ó] <;> omega)
theorem F80:f70 X (.type "tuple") (λxs H Q=>∃ p ys,xs=[.ref p]/\((SqL X.K H p ys/\∀ l,H l=none->Q (.ref l) (upd H l (.tup ys)))∨(SqT X.K H p ys/\Q (.ref p) H))):=by
 intro pins s σ H xs us Q I r h;obtain⟨p,ys,rfl,h⟩:=h;obtain⟨u,rfl,rx⟩:=vals1 r;cases rx;rcases h with ⟨hq,q⟩ | ⟨hq,q⟩
 ·obtain⟨its,r',pl,hz⟩:=I.list hq;have hlen:=r'.length;refine call_tuple_list pl.isList (λh' kp=>?_) (by simp only[Ó] <;> omega)
  have I1:Inv X pins σ H { s with heap:=h' }:=I.kept (t':=s.toks) kp;have I2:Inv X pins σ (upd H h'.objs.size (.tup ys)) { s with heap:=h'.push { cls:=.type "tuple",data:=.seq its.toArray } } :=
   I1.laid (t':=s.toks) (λb o e=>Ä _ e) (È _) (show h60 X.prog X.w _ _ _ (.tup ys) from⟨hz,its,r',Ê5.new _ _⟩)
  exact⟨.ref h'.objs.size,_,I2,rfl,q _ (I1.hok.fresh (È _))⟩
 ·obtain⟨its,r',pl,hz⟩:=I.tuple hq;exact call_tuple_same pl ⟨.ref p,H,I,rfl,q⟩
def tyV(K:Â)(T:String)(x:V)(H:Hp):Prop:=match x with
 |.str _=>T="str"|.int _=>T="int"
 |.ref p=>(T="list"/\∃ xs,SqL K H p xs)∨(T="tuple"/\∃ o,K.lookup p=some o/\o.cls=.type "tuple"/\o.dict=none) ∨
   (T="dict"/\((∃ kvs,H p=some (.dK kvs))∨∃ kvs,H p=some (.dT kvs)))∨(T="set"/\∃ S n,H p=some (.set S n))
 |_=>False
theorem X91{pins:List (Ç × Obj)}{σ:St}{H:Hp}{s:Å}{T:String}{x:V}{v:Ã}(I:Inv X pins σ H s)(r:RelV x v)(ty:tyV X.K T x H) :
  s.TypeIs v T/\∀ a,v=.ref a->∃ ob,s.heap.get? a=some ob/\ob.dict=none:=by
 cases x with
 |str z =>
  obtain⟨t,rfl⟩:=r;cases (show T="str" from ty);exact⟨typeIs_str s z t,λ_ e=>nomatch e⟩
 |int i =>
  obtain⟨t,rfl⟩:=r;cases (show T="int" from ty);exact⟨Ö5 s i t,λ_ e=>nomatch e⟩
 |ref p =>
  cases r;rcases ty with ⟨rfl,xs,hq⟩ | ⟨rfl,o,hk,hc,hd⟩ | ⟨rfl,hk⟩ | ⟨rfl,S,n,hk⟩
  ·obtain⟨its,_,pl,_⟩:=I.list hq;refine⟨pl.isList.typeIs,λa e=>?_⟩;cases e;obtain⟨o,n,e,c,hd,_⟩:=pl;exact⟨o,e,hd⟩
  ·refine⟨⟨o,I.kIn p o hk,hc⟩,λa e=>?_⟩;cases e;exact⟨o,I.kIn _ o hk,hd⟩
  ·have z:∃ o,s.heap.get? p=some o/\o.ExactDict:=by
    rcases hk with ⟨kvs,hk⟩ | ⟨kvs,hk⟩
    ·obtain⟨_,_,_,_,o,_,_,e,ex,_⟩:=I.hok p _ hk;exact⟨o,e,ex⟩
    ·obtain⟨_,_,_,_,o,_,_,e,ex,_⟩:=I.hok p _ hk;exact⟨o,e,ex⟩
   obtain⟨o,e,ex⟩:=z;refine⟨⟨o,e,ex.1⟩,λa e2=>?_⟩;cases e2;exact⟨o,e,ex.2.1⟩
  ·obtain⟨o,_,_,_,e,ex,_⟩:=I.hok p _ hk;refine⟨⟨o,e,ex.1⟩,λa e2=>?_⟩;cases e2;exact⟨o,e,ex.2.1⟩
 |_=>exact Ä2 ty
def tBM(K:Â)(T:String)(r:V->List V->Hp->VK->Prop)(to:TE)(t:TA):TE:=λσ H Q=>to σ H λx H1=>tyV K T x H1/\t σ H1 λxs H2=>r x xs H2 Q
variable {o e:Í}{es:List Í}{to:TE}{t:TA}{name:Str}{apos cpos:Pos}{T id:String}{r:V->List V->Hp->VK->Prop}
theorem o12(pa:PlainAttrs T)(slot:Slot T name id)(hty:typeOf (.builtin id)=pure (.type "method_descriptor"))(hm:MtR X id r)(ho:PE X o to)(ha:PA X (e::es) t)
  (hbase:attributeBase o name X.env (eval o X.env)=eval o X.env:=by rfl)
  (hfew:((Ò0 cpos (ù (e::es) X.env)).all (λx=>!x.1)&&(backToKw cpos (keywordEach [] X.env)).all (λx=>x.1.isSome)
   &&decide ((e::es).length + ([]:List Keyword).length + (if ([]:List Keyword).isEmpty then 0 else 1) < 30))=true:=by rfl)
  (hline:(apos.endLine == cpos.line)=true:=by rfl) (hs:ù (e::es) X.env=(false,eval e X.env)::ù es X.env:=by rfl) (hplain:(Ò0 cpos (ù es X.env)).any (·.1)=false:=by rfl) :
  PE X (.Call (.Attribute o name apos) (e::es) [] cpos) (tBM X.K T r to t):=by
 intro pins s σ H Q I h;refine wpAny_Call_method_late hbase hfew hline rfl (thn (ho pins s σ H _ I h) λv s1 ⟨x,H1,I1,r1,ty,q1⟩=>?_);obtain⟨h1,h2⟩:=X91 I1 r1 ty;refine⟨T,id,pa,slot,hty,h1,h2,?_⟩;have hA:=ha cpos pins s1 σ H1 _ I1 q1;rw[hs] at hA ⊢;refine Calls.callWith_builtin (by show(false || (Ò0 cpos (ù es X.env)).any (·.1))=false;rw[hplain] <;> rfl) (Ü9 ?_)
 exact thn hA λus s2 ⟨vs,H2,I2,r2,q2⟩=>hm pins s2 σ H2 x vs v us Q I2 r1 r2 q2
end
def MtM(X:Cx)(id:String)(r:V->List V->Hp->VK->Prop):Prop :=
 ∀ (pins:List (Ç × Obj)) (s:Å) (σ:St) (H:Hp) (x:V) (xs:List V) (v:Ã) (us:List Ã) (Q:VK),Inv X pins σ H s->RelV x v->Vals xs us->r x xs H Q ->
  Ï (Ô X.prog X.w) X.A (call (.builtin id) (v::us)) (EP X pins σ Q) X.xe s
theorem Vals.one:∀ {x:V}{us:List Ã},Vals [x] us->∃ u,us=[u]/\RelV x u
 |_,_,.cons r .nil=>⟨_,rfl,r⟩
theorem Vals.eraseIdx:∀ {xs:List V}{us:List Ã} (i:Nat),Vals xs us->Vals (xs.eraseIdx i) (us.eraseIdx i)
 |_,_,_,.nil=>.nil|_,_,0,.cons _ t=>t|_,_,i + 1,.cons r t=>.cons r (Vals.eraseIdx i t)
theorem Vals.reverse{xs:List V}{us:List Ã}(h:Vals xs us):Vals xs.reverse us.reverse:=by
 induction h with
 |nil=>exact .nil|cons r t ih=>rw[Ð6,Ð6];exact Vals.append ih (.cons r .nil)
theorem Vals.rep{xs:List V}{us:List Ã}(h:Vals xs us):∀ k:Nat,Vals (Õ k xs).flatten (Õ k us).flatten
 |0=>.nil
 |k + 1=>by
  rw[Á8,Á8,Å8,Å8];exact Vals.append h (Vals.rep h k)
theorem M50{α:Type}:∀ (l:List α) (i:Nat),(l.eraseIdx i).length<=l.length
 |[],_=>È _|_::_,0=>Nat.le_succ _|_::r,i + 1=>Ø0 (M50 r i)
theorem foldl_rep(its:List Ã):∀ (k:Nat) (acc:List Ã),
  foldl (λx1 x2=>x1++x2) acc.toArray (Õ k its.toArray)=(acc++(Õ k its).flatten).toArray
 |0,acc=>by simp
 |k + 1,acc=>by
  have e:acc.toArray++its.toArray=(acc++its).toArray:=by simp
  have e2:(acc++its)++(Õ k its).flatten=acc++(Õ (k + 1) its).flatten:=by
   rw[Á8,Å8,Õ4]
  rw[← e2,← foldl_rep its k (acc++its),← e,Á8,List.foldl_cons]
section
variable {X:Cx}{pins:List (Ç × Obj)}{σ:St}{H:Hp}{s:Å}{l b:Ç}{xs ys zs:List V}
theorem Inv.j92{its its':List Ã}{n:Nat}{f:Array Ã->Array Ã}{t':Nat}(I:Inv X pins σ H s)(hH:H l=some (.lst xs))
  (e:s.heap.get? l=some { cls:=.type "list",data:=.seq its.toArray n }) (hf:f its.toArray=its'.toArray) (hv:Vals ys its') (hz:ys.length<=sizeLine) :
  Inv X pins σ (upd H l (.lst ys)) { s with heap:=s.heap.update l (À3 f),toks:=t' }:=by
 have q:=PySem.IsL.update e f;rw[hf] at q;refine I.write (x:=l) (e:=l) (by rw[hH];exact trivial) (.inl rfl) (λb' u hb hu=>(Ü3 s.heap (À3 f) (À4 hb)).trans hu) ⟨_,q⟩ ?_
 exact⟨hz,its',_,hv,q⟩
theorem Inv.y02{its:List Ã}{t':Nat}(I:Inv X pins σ H s)(hv:Vals ys its)(hz:ys.length<=sizeLine) :
  Inv X pins σ (upd H s.heap.objs.size (.lst ys)) { s with heap:=s.heap.push { cls:=.type "list",data:=.seq its.toArray },toks:=t' } :=
 I.laid (λ_ _ q=>Ä _ q) (È _) ⟨hz,its,0,hv,Î _ rfl⟩
theorem Inv.fresh(I:Inv X pins σ H s):H s.heap.objs.size=none:=I.hok.fresh (È _)
theorem Inv.o22(I:Inv X pins σ H s)(hH:H l=some (.lst xs)):xs.length<=sizeLine/\∃ (its:List Ã) (n:Nat),Vals xs its/\xs.length=its.length/\s.heap.get? l=some { cls:=.type "list",data:=.seq its.toArray n }:=by
 obtain⟨z,its,n,r,e⟩:=I.hok l _ hH;exact⟨z,its,n,r,r.length,e⟩
theorem v61{n:Nat}(h:n<=sizeLine):Ê6 n=false:=by
 unfold Ê6;exact decide_eq_false ∅
end
section
variable {X:Cx}
def J61:V->List V->Hp->VK->Prop:=λx vs H Q=>∃ l xs y,x=.ref l/\vs=[y]/\H l=some (.lst xs)/\xs.length < sizeLine/\Q .non (upd H l (.lst (xs++[y])))
theorem h61:MtM X "list.append" J61:=by
 intro pins s σ H x vs v us Q I rx rv h;obtain⟨l,xs,y,rfl,rfl,hH,hz,q⟩:=h;cases rx;obtain⟨u,rfl,ru⟩:=rv.one;obtain⟨z,its,n,r,hl,e⟩:=I.o22 hH;refine Æ3 F.slot_list_append ⟨_,e,rfl⟩ F.entry_list_append (F.args_list_append_2 _ _) (PySem.list_append l its.toArray n u (by rw[Ó];omega)) ⟨e,?_⟩
 refine⟨.non,_,I.j92 (its':=its++[u]) hH e (by simp) (r.append (.cons ru .nil)) ?_,rfl,q⟩
 rw[Ã1,List.length_singleton];omega
def Y01:V->List V->Hp->VK->Prop:=λx vs H Q=>∃ l xs i k y,x=.ref l/\vs=[.int i]/\H l=some (.lst xs)/\-(2 ^ 63)<=i/\i < 2 ^ 63/\seqIndex? i xs.length=some k/\xs[k]?=some y/\Q y (upd H l (.lst (xs.eraseIdx k)))
theorem k02:MtM X "list.pop" Y01:=by
 intro pins s σ H x vs v us Q I rx rv h;obtain⟨l,xs,i,k,y,rfl,rfl,hH,h1,h2,hk,hy,q⟩:=h;cases rx;obtain⟨u,rfl,ru⟩:=rv.one;obtain⟨t,rfl⟩:=ru;obtain⟨z,its,n,r,hl,e⟩:=I.o22 hH;obtain⟨w,hw,rw'⟩:=r.get hy;refine Æ3 F.slot_list_pop ⟨_,e,rfl⟩ F.entry_list_pop (F.args_list_pop_2 _ _)
  (MeetsSeq.list_pop_at l its.toArray n i t k w (fitsIndex_both h1 h2) (by rw[Ó,← hl];exact hk) (by rw[← ú];exact hw) (by rw[Ó];omega)) ⟨e,?_⟩
 refine⟨y,_,I.j92 (its':=its.eraseIdx k) hH e ?_ (r.eraseIdx k) ?_,rw',q⟩
 ·show its.toArray.eraseIdxIfInBounds k=(its.eraseIdx k).toArray;rw[List.eraseIdxIfInBounds_toArray]
 ·have:=M50 xs k;omega
theorem len_rep{α:Type}(xs:List α)(k:Nat):(Õ k xs).flatten.length=k * xs.length:=by
 induction k with
 |zero=>simp|succ k ih=>rw[Á8,Å8,Ã1,ih,Nat.succ_mul,Nat.add_comm]
end
end L2
namespace Att
open PySem PySem.W PySem.Calls PyProof.Rows
theorem z50{P:Params}{h:í}:∀ (ns:List Int) (vs:List Ã),WellAll P h vs (ns.map WData.int)->È7 vs ns:=by
 intro ns
 induction ns with
 |nil =>
  intro vs w;rw[map_nil] at w;cases w;exact .nil
 |cons n ns ih =>
  intro vs w;rw[Ç9] at w;cases w with
  |cons a b =>
   cases a;exact .cons _ _ (ih _ b)
theorem h71{l:OpenLaw}{n:Nat}(hn:l.most=some n){P:Params}{h:í}{args:List WData}{vals:List Ã}
  (hpre:l.row.toRowW.claim.pre args=true) (hwl:WellAll P h vals args) :
  ∃ a vs ns,vals=[Ä8 a]/\args=[WData.list (ns.map WData.int)]/\h.get? a=some { cls:=.type "list",data:=.seq vs.toArray }/\È7 vs ns/\ns.length<=n:=by
 have hsh:WShape.hasAll [] args [.list .int]=true:=(pre_splitW hpre).1;have hc:l.pre.holds [] { args:=args }=true:=(pre_splitW hpre).2;obtain⟨d,r,rfl,h1,h2⟩:=hasAllW_cons hsh;obtain rfl:=hasAllW_nil h2;obtain⟨xs,rfl,h3⟩:=hasW_list h1;obtain⟨ns,rfl⟩:=items_int h3;have hlen:ns.length<=n:=by
  unfold OpenLaw.pre at hc;have h4:(WTm.not (.lt (.lit (.int (n:Int))) (.len (.arg 0)))).holds [] { args:=[.list (ns.map .int)] }=true:=by
   have h4:=(holds_andW hc).1;rw[hn] at h4;exact h4
  have h5:=condW_of h4 (w_not (w_lt w_lit (w_len_list (w_arg rfl))));rw[Ë] at h5;refine Nat.le_of_not_lt λq=>?_;have q':(n:Int) < ((ns.length:Nat):Int):=by omega
  first
   |(rw[decide_eq_true q'] at h5;exact absurd h5 (-0))
   |(simp at h5;omega)
 cases hwl with
 |cons w1 w2 =>
  cases w2;cases w1 with
  |list ho hall=>exact⟨_,_,ns,rfl,rfl,ho,z50 ns _ hall,hlen⟩
theorem h81(l:OpenLaw)(args:List WData):l.row.toRowW.claim.post args (.bool true) args=true :=
 postW_of (r:=l.row.toRowW) (X:=(true == true))
  (show WShape.has [] (.bool true) .bool=true by first | rfl | decide | simp[WShape.has,WShape.arms,WShape.armsAll])
  (show(WTm.eq .res (.lit (.bool true))).value [] { args:=args,res:=some (.bool true),after:=args }=some (.bool (true == true)) from w_eq_bool (w_res rfl) w_lit) rfl
theorem R40{l:OpenLaw}{n:Nat}{q:à}{loose:List Str}{XP:(Str->Option Ã)->í->Prop}{YP:ö->í->Prop}{d:DefRec}
  (hn:l.most=some n) (hdf:d.params.defaults=[])
  (call:∀ (w:ö) (s₀ s₁:Å) (mg mb:Str->Option Ã) (fa:Ç) (o:Obj) (pm cd doc:Ã) (a:Ç) (vs:List Ã) (ns:List Int),
   Ground q loose [] XP w s₀ mg mb s₁.heap->YP w s₁.heap ->
   s₁.heap.get? fa=some o->o.data=.func (docDef d.name d.params d.body d.scope pm cd doc)->s₁.heap.CodeRec cd d.name->mg d.name=some (.ref fa) ->
   s₁.heap.get? a=some { cls:=.type "list",data:=.seq vs.toArray }->È7 vs ns->ns.length<=n->s₁.gens=#[] ->
   Ù2 (Ô l.prog w) Ù3 (.call (.ref fa) ⟨[.ref a],[]⟩) (λr s'=>r=.ok (.ret (.bool true))/\OldK s₁.heap s'.heap/\s'.os=s₁.os/\Ò2 s'.gens) s₁) :
  WalkO q loose XP YP l.row.toRowW d [] (λf vs=>PySem.call f vs):=by
 intro w s₀ s₁ mg mb G Y fa o pm cd doc dV kV ho hd hcd hD hmg hg args vals as hpre hlay hrd hwl hlo;obtain rfl:dV=.none:=Dflts.none hD hdf;obtain rfl:kV=.none:=Dflts.noKw hD;obtain⟨a,vs,ns,rfl,rfl,hobj,hints,hlen⟩:=h71 hn hpre hwl;refine enter_call (Ñ9 (call w s₀ s₁ mg mb fa o pm cd doc a vs ns G Y ho (fd_plain hd) hcd hmg hobj hints hlen hg) λr s' hq=>?_);obtain⟨rfl,h2,h3,h4⟩:=hq;exact⟨.inl ⟨.bool true,.bool true,[],rfl,λ_=>rfl,.bool true,h81 l _,λ_=>⟨Ó3.nil,λ_ hm=>(nomatch hm)⟩⟩,h2,h3,h4⟩
end Att
namespace L2
open PySem PySem.Spec PyProof.Rows
theorem M60:∀ {vs:List Ã}{ns:List Int},È7 vs ns->Vals (ns.map V.int) vs
 |_,_,.nil=>.nil|_,_,.cons n t h=>.cons ⟨t,rfl⟩ (M60 h)
def F90(s:Å6):Arguments:=match s with
 |.FunctionDef _ a _ _ _ _ _ _ _ _=>a|_=>{ posonlyargs:=[],args:=[],vararg:=none,kwonlyargs:=[],kw_defaults:=[],kwarg:=none,defaults:=[] }
def m00(s:Å6):List Stmt:=match s with
 |.FunctionDef _ _ b _ _ _ _ _ _ _=>b|_=>[]
def c00(s:Å6):Scope:=match s with
 |.FunctionDef _ _ _ _ _ _ sc _ _ _=>sc|_=>{ kind:=.function,names:=[],isGenerator:=false,isCoroutine:=false }
abbrev CX0:CXT:=λ_ _ _ _ _ _=>False
structure Fun(K:PySem.W.Frag)(x qual:Str)(st:Stmt)(f:Addr)(fd:FuncData):Prop where
 ex:∃ (oc:Value) (od:Option Addr) (kV doc pm:Value) (an:Option Addr) (cdv ct:Value) (osl:Array (Option Value)),
  fd=fnOf x qual (F90 st) (m00 st) (c00 st) .none kV doc pm an cdv ct/\K.lookup f=some ⟨oc,od,.func fd,osl⟩/\PySem.W.codeIn K cdv qual=true
 kp:PySem.W.keepIn K (.ref f)=true
section
variable {P:à}{w:ö}{K:Â}{mg:Str->Option Ã}{base:í}
theorem Fun.binds{x qual:Str}{st:Å6}{f:Ç}{fd:È5}{ps:List Str}(F:Fun K x qual st f fd)
  (h:∀ (kV doc pm:Ã) (an:Option Ç) (cdv ct:Ã) (us:List Ã),us.length=ps.length->bindArgs (fnOf x qual (F90 st) (m00 st) (c00 st) .none kV doc pm an cdv ct) ⟨us,[]⟩=pure (ps.zip us)):Binds K fd ps []:=by
 obtain⟨oc,od,kV,doc,pm,an,cdv,ct,osl,rfl,lk,hcd⟩:=F.ex;exact .all (h kV doc pm an cdv ct)
end
def a30(H H':Hp):Prop:=∀ b o,H b=some o->H' b=some o
theorem a30.refl(H:Hp):a30 H H:=λ_ _ h=>h
theorem a30.trans{H H1 H2:Hp}(a:a30 H H1)(b:a30 H1 H2):a30 H H2:=λc o h=>b c o (a c o h)
end L2
set_option maxHeartbeats 4000000
namespace L2
open PySem
abbrev NoX:Ã->Å->Prop:=λ_ _=>False
theorem R50(env:Env):∀ (names:List (Str × Å7)) (acc:List (Str × Ç)),(∀ y∈names,y.2=.free->∃ c,env.cells.lookup y.1=some c)->(∀ x c,acc.lookup x=some c->env.cells.lookup x=some c) ->
  ∃ cl:List (Str × Ç),(forIn names acc λ(x:Str × Å7) (r:List (Str × Ç))=>(if (x.2 == .free)=true then do let c ← cellOf env x.1;pure (Ö ((x.1,c)::r)) else pure (Ö r):Sem (ForInStep (List (Str × Ç)))))=pure cl /\
   (∀ x c,cl.lookup x=some c->env.cells.lookup x=some c)/\(∀ x c,acc.lookup x=some c->∃ c',cl.lookup x=some c')/\(∀ y∈names,y.2=.free->∃ c,cl.lookup y.1=some c)
 |[],acc,_,ha=>⟨acc,by simp,ha,λx c e=>⟨c,e⟩,λy hy=>absurd hy (by simp)⟩
 |(n,k)::r,acc,hf,ha=>by
  by_cases hk:k=.free
  ·subst hk;obtain⟨c,hc⟩:=hf (n,.free) Ð rfl;have hcell:cellOf env n=pure c:=by unfold cellOf;rw[hc]
   obtain⟨cl,e,h1,h2,h3⟩:=R50 env r ((n,c)::acc) (λy hy=>hf y (Ì _ hy)) (λx c' e=>by
    rw[õ] at e;by_cases hx:(x == n)=true
    ·rw[hx] at e;have:x=n:=by simpa using hx
     subst this;cases e;exact hc
    ·rw[show(x == n)=false by simpa using hx] at e
     exact ha x c' e)
   refine⟨cl,?_,h1,λx c' e'=>?_,λy hy hyk=>?_⟩
   ·rw[É8];simp only[beq_self_eq_true,if_true,hcell,pure_bind];exact e
   ·by_cases hx:(x == n)=true
    ·exact h2 x c (by rw[õ,hx])
    ·exact h2 x c' (by rw[õ,show(x == n)=false by simpa using hx];exact e')
   ·rcases ü.mp hy with rfl | hy
    ·exact h2 n c (by simp[õ])
    ·exact h3 y hy hyk
  ·obtain⟨cl,e,h1,h2,h3⟩:=R50 env r acc (λy hy=>hf y (Ì _ hy)) ha;refine⟨cl,?_,h1,h2,λy hy hyk=>?_⟩
   ·rw[É8];have hb:((k == ç)=true)=False:=by simpa using hk
    simp only[hb,if_false,pure_bind];exact e
   ·rcases ü.mp hy with rfl | hy
    ·exact absurd hyk hk
    ·exact h3 y hy hyk
theorem h91(hf:∀ y∈scope.names,y.2=.free->∃ c,env.cells.lookup y.1=some c) :
  ∃ cl:List (Str × Ç),closureFor scope env=pure cl/\(∀ x c,cl.lookup x=some c->env.cells.lookup x=some c)/\(∀ y∈scope.names,y.2=.free->∃ c,cl.lookup y.1=some c):=by
 obtain⟨cl,e,h1,_,h3⟩:=R50 env scope.names [] hf (λx c e=>by simp at e)
 refine⟨cl,?_,h1,h3⟩;simp only[closureFor];exact(congrArg (λt=>t >>= λr=>(pure r:Sem _)) e).trans (by simp)
section
variable {P:à}{w:ö}{A:þ}{R:Result->Å->Prop}{s:Å}
theorem i01{el tg src:Í}{tests:List Í}{sc:À9}{ps:Pos}{itv av:Ã}{en:Env}(J:Nat->Å->Prop)
  (turn:∀ n s,J n s->Ï (Ô P w) A (pyNext itv) (λr s1=>match r with
   |none=>R (.ok .next) s1
   |some v=>Ï (Ô P w) A (Û8 tg itv v) (λ_ s2=>Ï (Ô P w) A (Ô5 tg en v) (λ_ s3 =>
     Ï (Ô P w) A (forIn tests true λc r=>if r=true then do let ok ← isTrue c en (eval c en);pure (Ö ok) else pure (Ö r)) (λok s4 =>
      if ok=true then Ï (Ô P w) A (eval el en) (λx s5 =>
       Ï (Ô P w) A (call (.builtin "list.append") [av,x]) (λ_ s6=>∃ m,m < n/\J m s6) NoX s5) NoX s4
      else ∃ m,m < n/\J m s4) NoX s3) NoX s2) NoX s1) NoX s)
  (n:Nat) (h:J n s) :
  Ù2 (Ô P w) A (.compLoop (.ListComp el [⟨tg,src,tests,0⟩] sc ps) 0 itv av en) R s:=by
 refine codeAny_loop rfl J (λn s hI=>?_) n h;show Ï _ A ((compTurn (.ListComp el [⟨tg,src,tests,0⟩] sc ps) 0 itv av en).onRaise (λx=>do noteFrame x en;theTreesLotGoes x)) _ _ s;refine wpAny_noted ?_;rw[compTurn_list];refine À (Ï7 (À (Ã8 (turn n s hI) (λr s1 h1=>?_) λ_ _ x=>x.elim)));cases r with
 |none=>exact Æ h1
 |some v =>
  refine À (Ã8 h1 (λ_ s2 h2=>?_) λ_ _ x=>x.elim);refine À (Ã8 h2 (λ_ s3 h3=>À (Ã8 h3 (λok s4 h4=>?_) λ_ _ x=>x.elim)) λ_ _ x=>x.elim);cases ok with
  |false=>exact Æ ⟨rfl,h4⟩|true=>exact À (À (Ã8 h4 (λx s5 h5=>À (Ã8 h5 (λ_ s6 h6=>Æ (Æ ⟨rfl,h6⟩)) λ_ _ x=>x.elim)) λ_ _ x=>x.elim))
end
open PySem PySem.Spec PyProof.Rows
abbrev b90(X:Cx)(N':List Str)(sc:À9)(cl:List (Str × Ç))(C:Ç)(s:Å)(H:Hp)(fp:List Ç):Cx :=
 { X with N:=N',s₀:=s,H₀:=H,env:=compEnvC sc cl C X.env,outer:=X.stack,stack:=X.stack,ex:=fp,fn:=λy=>sc.names.lookup y == some .cell,pn:=[],xe:=NoX }
def d10(own:List Str)(capt:List (Str × Nat)):List Str:=own++capt.map (·.1)
def p60(own:List Str)(capt:List (Str × Nat))(σ:St):St:=own.map (λ_=>none)++capt.map λp=>(σ[p.2]?).getD none
structure D50(X:Cx)(sc:Scope)(own:List Str)(capt:List (Str × Nat)):Prop where
 kind:sc.kind=.function
 cels:∀ y∈sc.names,y.2=.cell->sc.names.lookup y.1=some .cell
 fres:∀ y∈sc.names,y.2=.free->sc.names.lookup y.1=some .free
 locs:∀ y∈sc.names,y.2=.local->sc.names.lookup y.1=some .local
 frees:∀ y∈sc.names,y.2=.free->X.env.kindOf y.1=some .cell∨X.env.kindOf y.1=some .free
 captd:∀ p∈capt,X.N[p.2]?=some p.1/\sc.names.lookup p.1=some .free
theorem G00{env:Env}:∀ {names:List (Str × Å7)}{x:Str}{k:Å7},
  (names.map λ(n,k)=>if (k == ç&&env.scope.kind == .function&&env.kindOf n == some .cell) then(n,û) else(n,k)).lookup x=some k->(k=.cell∨k=.free)->(x,ç)∈names∨(x,û)∈names
 |[],_,_,h,_=>by simp at h
 |(n,k0)::r,x,k,h,hk=>by
  have h:É9 x ((if (k0 == ç&&env.scope.kind == .function&&env.kindOf n == some .cell)=true then(n,û) else(n,k0))::_)=some k:=h;cases hx:x == n with
  |true =>
   have e:x=n:=by simpa using hx
   subst e;by_cases hc:(k0 == ç&&env.scope.kind == .function&&env.kindOf x == some .cell)=true
   ·have:k0=.free:=by
     cases k0 <;> simp_all
    subst this;exact .inl Ð
   ·rw[if_neg hc] at h;simp only[õ,hx] at h;cases h;rcases hk with hk | hk
    ·subst hk;exact .inr Ð
    ·subst hk;exact .inl Ð
  |false =>
   have h':(r.map λ(n,k)=>if (k == ç&&env.scope.kind == .function&&env.kindOf n == some .cell) then(n,û) else(n,k)).lookup x=some k:=by
    by_cases hc:(k0 == ç&&env.scope.kind == .function&&env.kindOf n == some .cell)=true
    ·rw[if_pos hc] at h;simp only[õ,hx] at h;exact h
    ·rw[if_neg hc] at h;simp only[õ,hx] at h;exact h
   rcases G00 h' hk with z | z
   ·exact .inl (Ì _ z)
   ·exact .inr (Ì _ z)
theorem n70{env:Env}:∀ {names:List (Str × Å7)}{x:Str},names.lookup x=some .free ->
  (names.map λ(n,k)=>if (k == ç&&env.scope.kind == .function&&env.kindOf n == some .cell) then(n,û) else(n,k)).lookup x=some .cell ∨
  (names.map λ(n,k)=>if (k == ç&&env.scope.kind == .function&&env.kindOf n == some .cell) then(n,û) else(n,k)).lookup x=some .free
 |[],_,h=>by simp at h
 |(n,k)::r,x,h=>by
  have ih:=@n70 env r x;show É9 x ((if (k == ç&&env.scope.kind == .function&&env.kindOf n == some .cell)=true then(n,û) else(n,k))::_)=_∨É9 x ((if (k == ç&&env.scope.kind == .function&&env.kindOf n == some .cell)=true then(n,û) else(n,k))::_)=_;cases hx:x == n with
  |true =>
   simp only[õ,hx] at h;cases h;by_cases hc:(ç == ç&&env.scope.kind == .function&&env.kindOf n == some .cell)=true
   ·rw[if_pos hc];left;simp only[õ,hx]
   ·rw[if_neg hc];right;simp only[õ,hx]
  |false =>
   simp only[õ,hx] at h;by_cases hc:(k == ç&&env.scope.kind == .function&&env.kindOf n == some .cell)=true
   ·rw[if_pos hc];simp only[õ,hx];exact ih h
   ·rw[if_neg hc];simp only[õ,hx];exact ih h
theorem z60:∀ (names:List (Str × Å7)) (n:Nat) (a b:List (Str × Ç)),Æ7 n names (a++b)=Æ7 n names a++b
 |[],_,_,_=>rfl
 |(x,k)::r,n,a,b=>by
  unfold Æ7;split
  ·exact z60 r (n + 1) ((x,n)::a) b
  ·exact z60 r n a b
theorem z70:∀ (names:List (Str × Å7)) (n:Nat) (a:List (Str × Ç)) {x:Str}{c:Ç},(x,c)∈Æ7 n names a->(x,c)∈a∨(x,û)∈names
 |[],_,_,_,_,h=>.inl h
 |(y,k)::r,n,a,x,c,h=>by
  unfold Æ7 at h;split at h
  ·rename_i hk;rcases z70 r (n + 1) _ h with z | z
   ·rcases ü.mp z with z | z
    ·cases z;have:k=.cell:=by simpa using hk
     subst this;exact .inr Ð
    ·exact .inl z
   ·exact .inr (Ì _ z)
  ·rcases z70 r n a h with z | z
   ·exact .inl z
   ·exact .inr (Ì _ z)
theorem z80:∀ (names:List (Str × Å7)) (n:Nat) (a:List (Str × Ç)) {x:Str},((x,û)∈names∨∃ c,a.lookup x=some c)->∃ c,(Æ7 n names a).lookup x=some c
 |[],_,_,_,h=>by rcases h with h | h;simp at h;exact h
 |(y,k)::r,n,a,x,h=>by
  unfold Æ7;split
  ·refine z80 r (n + 1) _ ?_;rcases h with h | ⟨c,h⟩
   ·rcases ü.mp h with z | z
    ·cases z;exact .inr ⟨n,by simp[õ]⟩
    ·exact .inl z
   ·right;rw[õ];cases x == y with
    |true=>exact⟨n,rfl⟩|false=>exact⟨c,h⟩
  ·rename_i hk;refine z80 r n a ?_;rcases h with h | h
   ·rcases ü.mp h with z | z
    ·cases z;exact absurd rfl hk
    ·exact .inl z
   ·exact .inr h
theorem i11{M:Model}{A:þ}{E:Ã->Å->Prop}{s:Å}{sc:À9}{g:Ç}{cl:List (Str × Ç)}{q:Str}{en:Env}{Q:Env->Å->Prop}
  (h:Q (newEnv sc s.heap.objs.size g (Æ7 (s.heap.objs.size + 1) sc.names cl) q none .none (some en) Ö6) { s with heap:=pushCells (s.heap.push { cls:=.type "dict",data:=.dict #[] }) sc.names }):Ï M A (newFunctionEnv sc g cl [] q none .none (some en)) Q E s:=by
 simp only[newFunctionEnv,Option.isSome_some,if_true];refine À (wpAny_alloc (À (wpAny_layCells _ (λname kind cells=>by cases hkc:kind == û <;> simp[hkc]) _ _ _ _ ?_)))
 rw[show({ s with heap:=s.heap.push { cls:=.type "dict",data:=.dict #[] } }:Å).heap.objs.size=s.heap.objs.size + 1 from Ç4 ..];exact À (by rw[Ï4];exact Æ (Æ h))
theorem i21{l m:List (Str × Ç)}{x:Str}{c:Ç}(h:(l++m).lookup x=some c):l.lookup x=some c∨(l.lookup x=none/\m.lookup x=some c):=by
 rw[Î4] at h;cases e:l.lookup x with
 |none=>rw[e] at h;exact .inr ⟨rfl,h⟩|some d=>rw[e] at h;exact .inl h
theorem HOk.v71{P:à}{w:ö}{H:Hp}{h:í}{D:Ç}{ys:List V}{its:List Ã}{n:Nat}(x:HOk P w H h)(hn:H D=none)(hv:Vals ys its)(hz:ys.length<=sizeLine)
  (ho:h.get? D=some { cls:=.type "list",data:=.seq its.toArray n }):HOk P w (upd H D (.lst ys)) h:=λb u e=>by
 by_cases hb:b=D
 ·subst hb;rw[c20] at e;cases e;exact⟨hz,its,n,hv,ho⟩
 ·rw[a60 hb] at e;exact(x b u e).u31 (λc v _ q=>q) (λc q=>by rw[a60 (b20 q hn)];exact q) λc xs q=>by rw[a60 (b20 q hn)];exact q
def PTs(X:Cx)(tests:List Í)(t:TT):Prop :=
 ∀ (pins:List (Ç × Obj)) (s:Å) (σ:St) (H:Hp) (Q:Bool->Hp->Prop),Inv X pins σ H s->t σ H Q ->
  Ï (Ô X.prog X.w) X.A (forIn tests true λc r=>if r=true then do let ok ← isTrue c X.env (eval c X.env);pure (Ö ok) else pure (Ö r)) (TP X pins σ Q) X.xe s
def v81:TT:=λ_ H Q=>Q true H
theorem J71:PTs X [] v81:=λ_ _ _ H _ I h=>wpAny_tests_nil ⟨H,I,h⟩
theorem J81(hc:PT X c t):PTs X [c] t:=λpins s σ H Q I h=>wpAny_tests_one (hc pins s σ H Q I h)
section
variable {X:Cx}{pins:List (Ç × Obj)}{σ:St}{H2:Hp}{s2:Å}{sc:À9}{own:List Str}{capt:List (Str × Nat)}{cl:List (Str × Ç)}{fp:List Ç}{C:Ç}
theorem M70(I:Inv X pins σ H2 s2)(S:D50 X sc own capt)(hcl:∀ y∈sc.names,y.2=.free->∀ c,cl.lookup y.1=some c->X.env.cells.lookup y.1=some c)(hcf:∀ y∈sc.names,y.2=.free->∃ c,cl.lookup y.1=some c)
  (hx:∀ x c,X.env.cells.lookup x=some c->c ∉ fp) {h':í} (un:∀ c o,s2.heap.get? c=some o->H2 c=none->c ∉ fp->∃ sl,h'.get? c=some { o with slots:=sl }) (m:Str->Option Ã) :
  ∀ (i:Nat) (x:Str) (v:V),(d10 own capt)[i]?=some x->(p60 own capt σ)[i]?=some (some v)->∃ u,RelV v u/\Look (compEnvC sc cl C X.env) h' m x u:=by
 intro i x v e1 e2;unfold d10 at e1;unfold p60 at e2;by_cases hi:i < own.length
 ·rw[Í0 (by simpa using hi),Û] at e2
  cases q:own[i]? with
  |none=>rw[q] at e2;cases e2
  |some y=>rw[q] at e2;cases e2
 ·rw[Ã2 (by simpa using hi),Ë,Û] at e2
  rw[Ã2 (by simpa using hi),Û] at e1
  cases q:capt[i - own.length]? with
  |none=>rw[q] at e1;cases e1
  |some p =>
   rw[q] at e1 e2;obtain rfl:p.1=x:=ý e1;have e3:(σ[p.2]?).getD none=some v:=ý e2;have e4:σ[p.2]?=some (some v):=by
    cases z:σ[p.2]? with
    |none=>rw[z] at e3;cases e3
    |some w=>rw[z] at e3;exact congrArg some e3
   obtain⟨hN,hf⟩:=S.captd p (ò q);have hmem:(p.1,ç)∈sc.names:=Â9 hf;have hk:=S.frees _ hmem rfl;obtain⟨m0,_,hl⟩:=I.loc;have vis:Vis X.env.scope p.1:=.inr hk;obtain⟨u,r,lk⟩:=hl p.2 p.1 v hN e4 vis;refine⟨u,r,.inr ⟨?_,?_⟩⟩
   ·exact n70 hf
   ·rcases lk with ⟨hl0,_⟩ | ⟨_,c,hc,o,ho,hd⟩
    ·rcases hk with hk | hk <;> (rw[hk] at hl0;cases hl0)
    ·obtain⟨c',hc'⟩:=hcf _ hmem rfl;have:=hcl _ hmem rfl _ hc';rw[hc] at this;cases this;obtain⟨sl,q'⟩:=un c o ho (I.freeC _ _ hc) (hx _ _ hc);exact⟨c,hc',_,q',hd⟩
end
def J91(X:Cx)(pins:List (Ç × Obj))(σ:St)(R:V->Hp->Prop)(acc:Ã)(C:Ç)(s':Å):Prop :=
 ∃ D H' m',acc=.ref D/\Inv X pins σ H' s'/\c21 X pins H' C/\s'.heap.Ns C m'/\R (.ref D) H'
def K01(J:It)(σ0:St)(H1:Hp)(g:TG)(tt:TT)(te:TE)(Q:VK):Prop:=∃ W:Nat->Nat->List V->Hp->Prop,(∃ m,W 0 m [] H1)/\∀ i m ys H,W i m ys H ->
 (J.stop i H/\∀ p,H p=none->Q (.ref p) (upd H p (.lst ys))) ∨
 (J.go i H/\ys.length < sizeLine/\∃ N:List V->Hp->Prop,(∀ zs H',N zs H'->∃ m',m' < m/\W (i + 1) m' zs H')/\∀ x H',J.yld i H x H'->g x σ0 H' λσ2 H2=>tt σ2 H2 λb H3 =>
  if b=true then te σ2 H3 (λy H4=>N (ys++[y]) H4) else N ys H3)
def K11(own:List Str)(capt:List (Str × Nat))(wi:TI)(g:TG)(tt:TT)(te:TE):TE:=λσ H Q=>wi σ H λJ H1=>K01 J (p60 own capt σ) H1 g tt te Q
section
variable {X:Cx}{pins:List (Ç × Obj)}{σ:St}{H2:Hp}{s2:Å}{sc:À9}{own:List Str}{capt:List (Str × Nat)}{cl:List (Str × Ç)}{el tg src:Í}{tests:List Í}{ps:Pos}{g:TG}{tt:TT}{te:TE}
theorem D60(hc:X.calm=true)(S:D50 X sc own capt)(hcl:∀ x c,cl.lookup x=some c->X.env.cells.lookup x=some c)(hcf:∀ y∈sc.names,y.2=.free->∃ c,cl.lookup y.1=some c)
  (hg:∀ cl C s H fp,PG (b90 X (d10 own capt) sc cl C s H fp) tg g) (ht:∀ cl C s H fp,PTs (b90 X (d10 own capt) sc cl C s H fp) tests tt) (he:∀ cl C fp,PE (b90 X (d10 own capt) sc cl C s2 H2 fp) el te)
  {it:Ç}{fp:List Ç}{tn:Nat->í->Prop}{J:It} (I2:Inv X pins σ H2 s2) (T:Turn X.prog X.w X.K tg J fp it tn) (st2:tn 0 s2.heap) (f2:∀ b∈fp,c21 X pins H2 b)
  {R:VK} (h:K01 J (p60 own capt σ) H2 g tt te R) {RR:Ã->Ç->Result->Å->Prop} (hRR:∀ acc C s',J91 X pins σ R acc C s'->RR acc C (.ok .next) s') {E:Ã->Å->Prop} :
  Ï (Ô X.prog X.w) X.A (newList []) (λacc s3=>Ï (Ô X.prog X.w) X.A (newFunctionEnv sc X.env.globals cl [] X.env.qual none .none (some X.env)) (λce s4 =>
   Ù2 (Ô X.prog X.w) X.A (.compStart (.ListComp el [⟨tg,src,tests,0⟩] sc ps) 0 (.ref it) acc { ce with scope:=relabel sc X.env }) (RR acc ce.locals) s4) E s3) E s2:=by
 obtain⟨W,⟨m0,w0⟩,turn⟩:=h;refine å (i11 ?_);dsimp only;generalize hH3:s2.heap.push { cls:=.type "list",dict:=none,data:=.seq ([]:List Ã).toArray }=h3;have hcl0:=hcl;have hcf0:=hcf;have ok:=cellsFrom_ok sc.names (h3.push { cls:=.type "dict",data:=.dict #[] }) (h3.objs.size + 1) [] ⟨λ_ _ hm=>(nomatch hm),Ó3.nil⟩ (by rw[Ç4];exact È _)
 have hns1:(pushCells (h3.push { cls:=.type "dict",data:=.dict #[] }) sc.names).Ns h3.objs.size (λ_=>none):=(í.Ns.new h3 (.type "dict")).keeps (pushCells_keeps _ _);have keep1:∀ b o,h3.get? b=some o->(pushCells (h3.push { cls:=.type "dict",data:=.dict #[] }) sc.names).get? b=some o:=λb o e=>pushCells_keeps _ _ b o (Ä _ e);rw[Ç4] at ok;have ea:=z60 sc.names (h3.objs.size + 1) [] cl;rw[Ì8] at ea;rw[ea];generalize hnw:Æ7 (h3.objs.size + 1) sc.names []=nw at ok ea ⊢;generalize pushCells (h3.push { cls:=.type "dict",data:=.dict #[] }) sc.names=h1 at ok hns1 keep1 ⊢;have inNw:∀ x c,(x,c)∈nw->(x,û)∈sc.names/\h1.IsCell c none/\h3.objs.size + 1<=c:=λx c h=>by
  refine⟨?_,ok.empty x c h⟩;rcases z70 sc.names (h3.objs.size + 1) [] (by rw[hnw];exact h) with z | z
  ·cases z
  ·exact z
 have hasNw:∀ x,(x,û)∈sc.names->∃ c,nw.lookup x=some c:=λx h=>by rw[← hnw];exact z80 sc.names _ [] (.inl h)
 have freeNw:∀ y∈sc.names,y.2=.free->nw.lookup y.1=none:=λy hy hf=>by
  cases e:nw.lookup y.1 with
  |none=>rfl
  |some c =>
   have z:=S.cels _ (inNw _ _ (mem_of_lookup e)).1 rfl;rw[S.fres y hy hf] at z;cases z
 have cl2:∀ x c,(nw++cl).lookup x=some c->X.env.cells.lookup x=some c∨(x,c)∈nw:=λx c e=>by
  rcases i21 e with h | h
  ·exact .inr (mem_of_lookup h)
  ·exact .inl (hcl0 x c h.2)
 have hclF:∀ y∈sc.names,y.2=.free->∀ c,(nw++cl).lookup y.1=some c->X.env.cells.lookup y.1=some c:=λy hy hf c e=>by
  rcases i21 e with h | h
  ·rw[freeNw y hy hf] at h;cases h
  ·exact hcl0 _ _ h.2
 have hcf2:∀ y∈sc.names,y.2=.free->∃ c,(nw++cl).lookup y.1=some c:=λy hy hf=>by
  obtain⟨c,e⟩:=hcf0 y hy hf;exact⟨c,by rw[Î4,freeNw y hy hf];exact e⟩
 have hC:h3.objs.size=s2.heap.objs.size + 1:=by rw[← hH3,Ç4]
 have below:∀ b,b < s2.heap.objs.size->b≠h3.objs.size/\b≠s2.heap.objs.size:=λb hb=>⟨by omega,by omega⟩
 have hDC:s2.heap.objs.size≠h3.objs.size:=by omega
 have old:∀ b o,s2.heap.get? b=some o->h1.get? b=some o:=λb o e=>keep1 b o (hH3 ▸ Ä _ e);have hacc:h1.get? s2.heap.objs.size=some { cls:=.type "list",data:=.seq ([]:List Ã).toArray 0 }:=keep1 _ _ (hH3 ▸ Î _ rfl);have fpLt:∀ b∈fp,b < s2.heap.objs.size:=λb hb=>by
  obtain⟨o,e,_⟩:=T.obj _ _ st2 b hb;exact Ý e
 have celLt:∀ x c,X.env.cells.lookup x=some c->c < s2.heap.objs.size:=λx c e=>by
  obtain⟨v,o,q,_⟩:=I2.cell x c e;exact Ý q
 have frLt:∀ b∈frs X.stack,b < s2.heap.objs.size:=λb hb=>by
  obtain⟨_,o,q,_⟩:=I2.stack.mem hb;exact Ý q
 have celFp:∀ x c,X.env.cells.lookup x=some c->c ∉ fp:=λx c e hb=>(f2 c hb).2.2.2.2.1 x c e rfl;have big:∀ x c,(x,c)∈nw->s2.heap.objs.size < c:=λx c h=>Ù (by rw[hC];omega) (inNw x c h).2.2
 have celF2:∀ x c,(nw++cl).lookup x=some c->c ∉ fp:=λx c e hb=>by
  rcases cl2 x c e with a | a
  ·exact celFp x c a hb
  ·exact absurd (fpLt c hb) (Ô7.mpr (Ä1 (big x c a)))
 have celD:∀ x c,(nw++cl).lookup x=some c->c≠s2.heap.objs.size:=λx c e=>by
  rcases cl2 x c e with a | a
  ·exact ã (celLt x c a)
  ·exact Ò3 (big x c a)
 have fpFr:∀ b∈fp,b ∉ frs X.stack:=λb hb hf=>by
  rcases ü.mp (I2.f81 b hf) with z | z
  ·exact(f2 b hb).2.1 z
  ·exact(f2 b hb).2.2.1 z
 have okX:(b90 X (d10 own capt) sc (nw++cl) h3.objs.size s2 H2 fp).Ok:=by
  refine⟨I2.ok.mod,S.kind,I2.ok.glob,I2.ok.blt,(by show s2.heap.objs.size<=h3.objs.size;omega),λx y c e1 e2=>?_,λx hx=>?_,λx c hx e=>?_,I2.ok.hd,I2.ok.frames,.inl rfl,
   λb hb=>⟨(below b (fpLt b hb)).1,λx c e z=>celF2 x c e (z ▸ hb)⟩,I2.bs,Ò I2.ok.bsz I2.sz,λb o e hb=>?_,fpFr,I2.stack,I2.Q90⟩
  ·rcases cl2 x c e1 with a | a <;> rcases cl2 y c e2 with b | b
   ·exact I2.ok.inj x y c a b
   ·exact absurd (celLt x c a) (Ô7.mpr (Ä1 (big y c b)))
   ·exact absurd (celLt y c b) (Ô7.mpr (Ä1 (big x c a)))
   ·exact name_of_addr ok.apart a b
  ·have hx':(x,ç)∈sc.names∨(x,û)∈sc.names:=by
    rcases hx with hx | hx
    ·exact G00 hx (.inl rfl)
    ·exact G00 hx (.inr rfl)
   rcases hx' with hx' | hx'
   ·exact hcf2 _ hx' rfl
   ·obtain⟨c,e⟩:=hasNw x hx';exact⟨c,by show(nw++cl).lookup x=some c;rw[Î4,e];rfl⟩
  ·have hx':sc.names.lookup x=some .cell:=eq_of_beq hx;obtain⟨d,q⟩:=hasNw x (Â9 hx');have e':(nw++cl).lookup x=some c:=e;rw[Î4,q] at e';cases e';exact Ä1 (big x _ (mem_of_lookup q))
  ·rcases (f2 b hb).2.2.2.1 with z | z
   ·exact I2.ok.noex b o e z
   ·have l1:b < X.base.objs.size:=Ý e;have l2:X.base.objs.size<=X.s₀.heap.objs.size:=I2.ok.bsz;have l3:X.s₀.heap.objs.size<=b:=z;exact absurd l1 (Ô7.mpr (Ò l2 l3))
 have reset:∀ {pl:List (Ç × Obj)}{σ':St}{H':Hp}{s':Å},Inv (b90 X (d10 own capt) sc (nw++cl) h3.objs.size s2 H2 fp) pl σ' H' s'->Inv (b90 X (d10 own capt) sc (nw++cl) h3.objs.size s2 H2 fp) pl (p60 own capt σ) H' s':=λ{pl σ' H' s'} I'=>by
  obtain⟨m,hn,_⟩:=I'.loc;refine⟨I'.ok,I'.os,I'.bare,I'.base,⟨m,hn,λi x v e1 e2 _=>M70 I2 S hclF hcf2 celFp (λc o q n hx=>I'.base.any q n hx) m i x v e1 e2⟩,I'.cell,I'.free,I'.freeC,I'.pin,I'.hok,?_⟩;show(p60 own capt σ).length=(d10 own capt).length;simp[p60,d10]
 have start:Inv (b90 X (d10 own capt) sc (nw++cl) h3.objs.size s2 H2 fp) [(s2.heap.objs.size,{ cls:=.type "list",data:=.seq ([]:List Ã).toArray 0 })] (p60 own capt σ) H2 { s2 with heap:=h1,toks:=s2.toks + ([]:List (Str × Ã)).length }:=by
  refine⟨okX,rfl,I2.bare,Un.kept old,⟨_,hns1,λi x v e1 e2 _=>M70 I2 S hclF hcf2 celFp (λc o q _ _=>⟨o.slots,old c o q⟩) _ i x v e1 e2⟩,λx c e=>?_,?_,λx c e=>?_,λp hp=>?_,I2.hok.kept old,?_⟩
  ·rcases cl2 x c e with a | a
   ·obtain⟨v,q⟩:=I2.cell x c a;exact⟨v,q.keeps old⟩
   ·exact⟨none,(inNw x c a).2.1⟩
  ·exact I2.hok.fresh (by show s2.heap.objs.size<=h3.objs.size;omega)
  ·rcases cl2 x c e with a | a
   ·exact I2.freeC x c a
   ·exact I2.hok.fresh (Ä1 (big x c a))
  ·have hp':p=(s2.heap.objs.size,{ cls:=.type "list",data:=.seq ([]:List Ã).toArray 0 }):=by simpa using hp
   subst hp';exact⟨hacc,I2.hok.fresh (È _),hDC,λz=>À6 _ (frLt _ z),λv z=>by cases z⟩
  ·show(p60 own capt σ).length=(d10 own capt).length;simp[p60,d10]
 have f51:∀ {pl:List (Ç × Obj)}{H':Hp},(∀ p∈pl,p.1 ∉ fp)->(∀ b∈fp,H' b=none)->∀ b∈fp,c21 (b90 X (d10 own capt) sc (nw++cl) h3.objs.size s2 H2 fp) pl H' b:=λ{pl H'} hp hn b hb =>
  ⟨hn b hb,(below b (fpLt b hb)).1,fpFr b hb,.inl hb,λx c e z=>celF2 x c e (z ▸ hb),λp hpp z=>hp p (by simpa using hpp) (z ▸ hb)⟩
 have hDfp:s2.heap.objs.size ∉ fp:=λz=>À6 _ (fpLt _ z);have loop:∀ s3:Å,s3={ s2 with heap:=h1,toks:=s2.toks + ([]:List (Str × Ã)).length } ->
   Ù2 (Ô X.prog X.w) X.A (.compLoop (.ListComp el [⟨tg,src,tests,0⟩] sc ps) 0 (.ref it) (.ref s2.heap.objs.size) (compEnvC sc (nw++cl) h3.objs.size X.env)) (RR (.ref s2.heap.objs.size) h3.objs.size) s3:=by
  rintro s3 rfl;refine i01 (λn s'=>∃ i ys H' its k,Inv (b90 X (d10 own capt) sc (nw++cl) h3.objs.size s2 H2 fp) [(s2.heap.objs.size,{ cls:=.type "list",data:=.seq (toArray its) k })] (p60 own capt σ) H' s'/\tn i s'.heap/\(∀ b∈fp,H' b=none)/\Vals ys its/\ys.length<=sizeLine/\W i n ys H') ?_ m0
   ⟨0,[],H2,[],0,start,T.keep _ _ _ st2 λb _ o e=>old b o e,λb hb=>(f2 b hb).1,.nil,Ä3 _,w0⟩
  rintro n s' ⟨i,ys,H',its,k,I',st',fr',hv,hz,w'⟩;have pinD:∀ p∈[((s2.heap.objs.size:Ç),({ cls:=.type "list",data:=.seq (toArray its) k }:Obj))],p.1 ∉ fp:=λp hp=>by
   have hp':p=(s2.heap.objs.size,{ cls:=.type "list",data:=.seq (toArray its) k }):=by simpa using hp
   subst hp';exact hDfp
  rcases turn i n ys H' w' with ⟨stop,q⟩ | ⟨go,hlt,N,hN,step⟩
  ·refine thn (T.done (b90 X (d10 own capt) sc (nw++cl) h3.objs.size s2 H2 fp) rfl rfl rfl hc i _ s' _ H' NoX I' (f51 pinD fr') st' stop) λr s1 hr=>?_;obtain⟨hr,I1⟩:=hr;subst hr;obtain⟨gD,nD,_,_,_⟩:=I1.pin _ (ä _ Ð);obtain⟨m',hn',_⟩:=id I1.loc;have un:Un (frs X.stack) fp H2 (upd H' s2.heap.objs.size (.lst ys)) s2.heap s1.heap:=by
    have u:=I1.base;have nD2:H2 s2.heap.objs.size=none:=I2.hok.fresh (È _);refine⟨u.keep,u.slot,λb o e n hx=>?_,u.there,λb xs e=>?_,λb o xs e=>?_,λb ps' e=>?_⟩
    ·rw[a60 (below b (Ý e)).2];exact u.free b o e n hx
    ·rw[a60 (b20 e nD2)];exact u.tups b xs e
    ·rw[a60 (b20 e nD2)];exact u.frzs b o xs e
    ·obtain⟨more,e'⟩:=u.tbls b ps' e;exact⟨more,by rw[a60 (b20 e nD2)];exact e'⟩
   have IX:Inv X pins σ (upd H' s2.heap.objs.size (.lst ys)) s1:=I2.l32 I1.os un (I1.hok.v71 nD hv hz gD) I1.bare λb hb=>⟨(f2 b hb).2.2.2.1,(f2 b hb).2.1,(f2 b hb).2.2.2.2.1,(f2 b hb).2.2.2.2.2⟩;refine hRR _ _ _ ⟨_,_,m',rfl,IX,?_,hn',q _ nD⟩;exact I2.f51 ∅ (by rw[a60 hDC.symm];exact I1.free)
  ·refine thn (T.item (b90 X (d10 own capt) sc (nw++cl) h3.objs.size s2 H2 fp) rfl rfl rfl hc i _ s' _ H' NoX I' (f51 pinD fr') st' go) λr s1 hr=>?_;obtain⟨u,hr,h4⟩:=hr;subst hr;refine thn h4 λ_ s5 hr5=>?_;obtain⟨x,H5,I5,r5,y5,st5,fr5⟩:=hr5;have I5p:=I5.pinned (f51 pinD fr5) (T.obj _ _ st5);refine thn (hg _ _ _ _ _ _ s5 _ H5 x u _ I5p r5 (step x H5 y5)) λ_ s6 hr6=>?_;obtain⟨σ6,H6,I6,q6⟩:=hr6;refine thn (ht _ _ _ _ _ _ s6 σ6 H6 _ I6 q6) λok s7 hr7=>?_;obtain⟨H7,I7,q7⟩:=hr7;have memFp:∀ {pl:List (Ç × Obj)}{b:Ç}{o:Obj},b∈fp->s5.heap.get? b=some o->(b,o)∈([]:List (Ç × Obj))++(pl++z20 fp s5.heap):=λhb e=>ä _ (ä _ (j20 hb e));cases ok with
   |false =>
    rw[if_neg Ñ] at q7 ⊢;obtain⟨m',hm,w7⟩:=hN _ _ q7;refine⟨m',hm,i + 1,ys,H7,its,k,reset (I7.z00 λp hp=>I7.pin p (ä _ (Ë0 _ hp))),T.keep _ _ _ st5 λb hb o e=>(I7.pin (b,o) (memFp hb e)).1,λb hb=>?_,hv,hz,w7⟩;obtain⟨o,e,_⟩:=T.obj _ _ st5 b hb;exact(I7.pin (b,o) (memFp hb e)).2.1
   |true =>
    rw[if_pos rfl] at q7 ⊢;refine thn (he _ _ _ _ s7 σ6 H7 _ I7 q7) λuv s8 hr8=>?_;obtain⟨y,H8,I8,r8,q8⟩:=hr8;obtain⟨m',hm,w8⟩:=hN _ _ q8;obtain⟨gD,nD,dC,dF,_⟩:=I8.pin _ (ä _ (Ë0 _ Ð));refine append_at gD (λh9 sb hD9=>?_) (by show(toArray its).size<=sizeLine;rw[Ó,← hv.length];exact hz)
    have I8a:Inv (b90 X (d10 own capt) sc (nw++cl) h3.objs.size s2 H2 fp) (z20 fp s5.heap) σ6 H8 s8:=I8.z00 λp hp=>I8.pin p (ä _ (ä _ hp));have I9:Inv (b90 X (d10 own capt) sc (nw++cl) h3.objs.size s2 H2 fp) (z20 fp s5.heap) σ6 H8 { s8 with heap:=h9 }:=I8a.turned (t':=s8.toks) (λb o hb e=>(sb.2 b hb).trans e) nD dC (.inr (È _))
     (λx c e=>celD x c e) (λp hp z=>hDfp (z ▸ (L30 (by simpa using hp)).1))
    rw[List.push_toArray] at hD9;refine⟨m',hm,i + 1,ys++[y],H8,its++[uv],k + 1,(reset I9).z00 λp hp=>?_,T.keep _ _ _ st5 λb hb o e=>?_,λb hb=>?_,hv.append (.cons r8 .nil),by rw[Ã1];exact hlt,w8⟩
    ·have hp':p=(s2.heap.objs.size,{ cls:=.type "list",data:=.seq (toArray (its++[uv])) (k + 1) }):=by simpa using hp
     subst hp';exact⟨hD9,nD,dC,dF,λv z=>by cases z⟩
    ·exact(I9.pin (b,o) (ä _ (j20 hb e))).1
    ·obtain⟨o,e,_⟩:=T.obj _ _ st5 b hb;exact(I9.pin (b,o) (ä _ (j20 hb e))).2.1
 exact codeAny_compStart_list (loop _ rfl) (T.self _ 0 _ _ _ (T.keep _ _ _ st2 λb _ o e=>old b o e) (loop _ rfl))
end
section
variable {X:Cx}{sc:À9}{own:List Str}{capt:List (Str × Nat)}{el tg src:Í}{tests:List Í}{ps pos:Pos}{wi:TI}{g:TG}{tt:TT}{te:TE}
theorem K21(hc:X.calm=true)(S:D50 X sc own capt)(hi:PI X tg src wi)(hg:∀ cl C s H fp,PG (b90 X (d10 own capt) sc cl C s H fp) tg g)
  (ht:∀ cl C s H fp,PTs (b90 X (d10 own capt) sc cl C s H fp) tests tt) (he:∀ cl C s H fp,PE (b90 X (d10 own capt) sc cl C s H fp) el te)
  (hs:∀ x,É6 src X.env x=pure x:=by intro _;rfl):PE X (.ListComp el [⟨tg,src,tests,0⟩] sc ps) (K11 own capt wi g tt te):=by
 intro pins s σ H Q I h;obtain⟨cl,hclos,hcl,hcf⟩:=h91 (scope:=sc) (env:=X.env) λy hy hk=>I.ok.has y.1 (S.frees y hy hk);rw[eval_ListComp];refine wpAny_comprehension_free (use:=none) rfl hs hclos S.kind S.locs (thn (hi pins s σ H _ I h) λv s1 h1=>thn h1 λitv s2 h2=>?_);obtain⟨it,fp,tn,J,H2,e,I2,T,st2,f2,hw⟩:=h2;subst e;refine D60 hc S hcl hcf hg ht (λcl C fp=>he cl C _ _ fp) I2 T st2 f2 hw (RR:=λacc C=>compPost (Ô X.prog X.w) X.A X.xe none (EP X pins σ Q) acc C) λacc C s' hf=>?_;obtain⟨D,H',m',rfl,I',f',ns',r⟩:=hf;exact⟨m',ns',λh' sb=>⟨.ref D,H',I'.turned (t':=s'.toks) (λb o hb e=>(sb.2 b hb).trans e) f'.1 f'.2.1 f'.2.2.2.1 f'.2.2.2.2.1 f'.2.2.2.2.2,rfl,r⟩⟩
theorem K31{i:Nat}{y:Str}{py:Pos}(hN:X.N.Nodup)(hiN:X.N[i]?=some y)(hy:Loc X.env.scope y)(hsw:Ñ0 (.ListComp el [⟨tg,src,tests,0⟩] sc ps) (some (.Name y py)) pos.line X.env=pure true)
  (hc:X.calm=true) (S:D50 X sc own capt) (hi:PI X tg src wi) (hg:∀ cl C s H fp,PG (b90 X (d10 own capt) sc cl C s H fp) tg g)
  (ht:∀ cl C s H fp,PTs (b90 X (d10 own capt) sc cl C s H fp) tests tt) (he:∀ cl C s H fp,PE (b90 X (d10 own capt) sc cl C s H fp) el te)
  (hs:∀ x,É6 src X.env x=pure x:=by intro _;rfl) (hf:X.fn y=true∨X.env.scope.names.lookup y=some .local:=by first | exact .inl rfl | exact .inr rfl | assumption) :
  PS X (.Assign [.Name y py] (.ListComp el [⟨tg,src,tests,0⟩] sc ps) pos) (W11 (K11 own capt wi g tt te) (c11 i)):=by
 intro pins s σ H D I h;obtain⟨cl,hclos,hcl,hcf⟩:=h91 (scope:=sc) (env:=X.env) λy hy hk=>I.ok.has y.1 (S.frees y hy hk);rw[exec_Assign_Name_used _ _ _ _ hsw];refine À (Ï7 (À ?_));show Ï _ X.A (do let _ ← comprehension (.ListComp el [⟨tg,src,tests,0⟩] sc ps) sc X.env _ (newList []) false (eval src X.env) (some (Ô5 (.Name y py) X.env))) _ _ s;refine À (Ã8 (wpAny_comprehension_free (use:=some (Ô5 (.Name y py) X.env)) (Q:=λ_ s'=>SP X pins D .next s') rfl hs hclos S.kind S.locs
  (thn (hi pins s σ H _ I h) λv s1 h1=>thn h1 λitv s2 h2=>?_)) (λ_ s' hq=>Æ (Æ hq)) λ_ _ e=>e)
 obtain⟨it,fp,tn,J,H2,e,I2,T,st2,f2,hw⟩:=h2;subst e;refine D60 hc S hcl hcf hg ht (λcl C fp=>he cl C _ _ fp) I2 T st2 f2 hw (RR:=λacc C=>compPost (Ô X.prog X.w) X.A X.xe (some (Ô5 (.Name y py) X.env)) (λ_ s'=>SP X pins D .next s') acc C) λacc C s' hfn=>?_;obtain⟨DA,H',m',rfl,I',f',ns',r⟩:=hfn;show Ï _ X.A (Ô5 (.Name y py) X.env (.ref DA)) _ _ _;refine wpAny_assign_Name (L10 (v:=.ref DA) I' hN hiN hy rfl (λs3 I3 ha=>?_) hf);obtain⟨a,sb,ha⟩:=ha;have hCa:C≠a:=λz=>by
  rcases ha with q | q
  ·exact f'.2.1 (z.trans q)
  ·exact f'.2.2.2.2.1 _ _ q z.symm
 exact⟨m',ns'.sameBut sb hCa,λh' sb'=>⟨_,H',I3.turned (t':=s3.toks) (λb o hb e=>(sb'.2 b hb).trans e) f'.1 f'.2.1 f'.2.2.2.1 f'.2.2.2.2.1 f'.2.2.2.2.2,r⟩⟩
end
end L2
namespace L2
open PySem
section
variable {P:à}{w:ö}{A:þ}{E:Ã->Å->Prop}{s:Å}
theorem n80(hr:s.heap.IsTupleIter r t k)(ht:s.heap.IsTuple t vs)(hx:vs[k]?=some x)
  (hQ:∀ h',h'.IsTupleIter r t (k + 1)->Ü4 r s.heap h'->Q x { s with heap:=h' }):Ï (Ô P w) A (nextOf (.ref r)) Q E s:=by
 obtain⟨o,ho,hc,hd⟩:=id hr;obtain⟨ot,hot,_,nt,hdt⟩:=ht;unfold nextOf;refine À (Á5 (name:=À8 "__next__") hr.typeIs Ç3 (Ã7 Ç3 hr.typeIs Û6 ?_ (Û3 _)));show Ï _ _ (field (.ref r) 0 >>= _) _ _ s;refine À (À2 ho hd (x:=.ref t) rfl ?_);show Ï _ _ (if (Ä8 t == á)=true then _ else _) _ _ s;rw[if_neg (show ¬ ((Ä8 t == á)=true) from Ñ)];show Ï _ _ (field (.ref r) 1 >>= _) _ _ s;refine À (À2 ho hd (x:=.int k 0) rfl ?_);show Ï _ _ (seqItems? (.ref t) >>= _) _ _ s;refine À (Å3 hot hdt ?_);simp only[À7,hx];refine À (wpAny_setField ho hd (by simp) (Æ ⟨x,rfl,Æ (hQ _ ⟨_,Ü8 _ ho (Obj.isFreed_of_fields (Obj.data_mapFields hd _)),(Obj.cls_mapFields ..).trans hc,by rw[Obj.data_mapFields hd];simp[rawInt]⟩ (È9 ..))⟩))
theorem k20(hh:A.handled=none)(hr:s.heap.IsTupleIter r t k)(ht:s.heap.IsTuple t vs)(hx:vs[k]?=none)
  (hE:∀ h' e,í.ExtBut r s.heap h'->(∃ o,h'.get? e=some o/\o.cls=.type "StopIteration")->E (.ref e) { s with heap:=h' }):Ï (Ô P w) A (nextOf (.ref r)) Q E s:=by
 obtain⟨o,ho,hc,hd⟩:=id hr;obtain⟨ot,hot,_,nt,hdt⟩:=ht;unfold nextOf;refine À (Á5 (name:=À8 "__next__") hr.typeIs Ç3 (Ã7 Ç3 hr.typeIs Û6 ?_ (Û3 _)));show Ï _ _ (field (.ref r) 0 >>= _) _ _ s;refine À (À2 ho hd (x:=.ref t) rfl ?_);show Ï _ _ (if (Ä8 t == á)=true then _ else _) _ _ s;rw[if_neg (show ¬ ((Ä8 t == á)=true) from Ñ)];show Ï _ _ (field (.ref r) 1 >>= _) _ _ s;refine À (À2 ho hd (x:=.int k 0) rfl ?_);show Ï _ _ (seqItems? (.ref t) >>= _) _ _ s;refine À (Å3 hot hdt ?_);simp only[À7,hx];refine À (Ê7 (À (wpAny_setField ho hd (by simp) ?_)));show Ï _ _ (newExc (.type "StopIteration") [] >>= _) _ _ _
 refine À ?_;simp only[newExc,newTuple];refine À (å ?_ (by size_fits));refine À (m:=firstArgMember _ _) (wpAny_of_eq (a:=á) (by first | rfl | (simp only[firstArgMember];rfl)) ?_)
 refine å ?_ (by size_fits);simp only[raiseNew];refine À (wpAny_handled ?_)
 first | rw[show A.in1.handled=none from hh] | rw[hh]
 refine À (Æ (wpAny_throw (hE _ _ (((È9 ..).extBut.push _).push _) ⟨_,Î _ rfl,rfl⟩)))
theorem i31{z TI TO i1 i2 l1 l2:Ç}{k:Nat}{xs ys:Array Ã}{x y a b:Ã}{Q:Option Ã->Å->Prop}(D:ZipApart z TI TO i1 i2 l1 l2)(hz:Î1 s.heap z TI TO .none)
  (hTI:Ã9 s.heap TI (.ref i1) (.ref i2)) (hTO:Ã9 s.heap TO a b) (h1:s.heap.IsTupleIter i1 l1 k) (h2:s.heap.IsTupleIter i2 l2 k) (hl1:s.heap.IsTuple l1 xs) (hl2:s.heap.IsTuple l2 ys)
  (hx:xs[k]?=some x) (hy:ys[k]?=some y)
  (hQ:∀ h',Î1 h' z TI TO (rawInt s.heap.objs.size)->Ã9 h' TO x y->h'.IsTupleIter i1 l1 (k + 1)->h'.IsTupleIter i2 l2 (k + 1)->Ã9 h' s.heap.objs.size x y->h'.objs.size=s.heap.objs.size + 1 ->
   (∀ c o,c≠z->c≠TO->c≠i1->c≠i2->s.heap.get? c=some o->h'.get? c=some o)->Q (some (.ref s.heap.objs.size)) { s with heap:=h' }):Ï (Ô P w) A (pyNext (.ref z)) Q E s:=by
 have hT:s.TypeIs (.ref z) "zip":=⟨_,hz,rfl⟩;unfold pyNext;refine À (wpAny_attempt (Á5 (name:=À8 "__next__") hT Ñ7 (Ã7 Ñ7 hT F.entry_zip_next ?_ (F.args_zip_next_1 _))));show Ï _ _ (field (.ref z) 2 >>= _) _ _ _;refine À (À2 hz rfl (x:=.bool false) rfl ?_);show Ï _ _ (field (.ref z) 3 >>= _) _ _ _;refine À (À2 hz rfl (x:=.ref TI) rfl ?_);refine À (Å3 hTI rfl ?_);show Ï _ _ (É7 (.ref z) >>= _) _ _ _;refine À ?_;unfold É7;refine À (À2 hz rfl (x:=.none) rfl (Æ ?_));simp only[if_true];refine À (Ê7 (À (À2 hz rfl (x:=.ref TO) rfl (À (Æ0 hz (by simp) λg1 z1 e1=>?_)))))
 replace z1:Î1 g1 z TI TO .ellipsis:=z1
 refine À ?_;simp only[List.zipIdx_cons,List.zipIdx_nil,É8,Ï4];refine À (À (Ö1 ?_));show Ï _ _ (nextOf (.ref i1) >>= _) _ _ _;refine À (n80 (h1.extBut e1.extBut D.i1z) (hl1.extBut e1.extBut D.l1z) hx λg2 r2 e2=>Æ ?_);have t2:Ã9 g2 TO a b:=e2.extBut _ _ D.TOi1 (e1.extBut _ _ D.TOz hTO);refine À (Å3 t2 rfl (À (Ô0 t2 λg3 t3 e3=>?_)))
 replace t3:Ã9 g3 TO x b:=t3
 refine À (wpAny_letGo (Æ ?_));refine À (À (Ö1 ?_));show Ï _ _ (nextOf (.ref i2) >>= _) _ _ _;refine À (n80 (((h2.extBut e1.extBut D.i2z).extBut e2.extBut D.i12.symm).extBut e3.extBut D.TOi2.symm) (((hl2.extBut e1.extBut D.l2z).extBut e2.extBut D.l2i1).extBut e3.extBut D.l2TO) hy λg4 r4 e4=>Æ ?_);have t4:Ã9 g4 TO x b:=e4.extBut _ _ D.TOi2 t3;refine À (Å3 t4 rfl (À (Ô0 t4 λg5 t5 e5=>?_)))
 replace t5:Ã9 g5 TO x y:=t5
 refine À (wpAny_letGo (Æ (Æ ?_)));refine À (Å3 t5 rfl (À (wpAny_newTuple ?_)));have sz:g5.objs.size=s.heap.objs.size:=by rw[e5.1,e4.1,e3.1,e2.1,e1.1]
 have z5:Î1 g5 z TI TO .ellipsis:=e5.extBut _ _ D.TOz.symm (e4.extBut _ _ D.i2z.symm (e3.extBut _ _ D.TOz.symm (e2.extBut _ _ D.i1z.symm z1)));have kp:∀ c o,c≠z->c≠TO->c≠i1->c≠i2->s.heap.get? c=some o->g5.get? c=some o:=λc o c1 c2 c3 c4 e=>e5.extBut _ _ c2 (e4.extBut _ _ c4 (e3.extBut _ _ c2 (e2.extBut _ _ c3 (e1.extBut _ _ c1 e))));have r1:g5.IsTupleIter i1 l1 (k + 1):=((r2.extBut e3.extBut D.TOi1.symm).extBut e4.extBut D.i12).extBut e5.extBut D.TOi1.symm;have r5:g5.IsTupleIter i2 l2 (k + 1):=r4.extBut e5.extBut D.TOi2.symm;have zl:z < g5.objs.size:=Ý z5;show Ï _ _ (ownedTupleHandOut (.ref z) (.ref g5.objs.size) >>= _) _ _ _;refine À ?_;unfold ownedTupleHandOut;have z6:Î1 (g5.push { cls:=.type "tuple",data:=.seq #[x,y] }) z TI TO .ellipsis:=Ä _ z5;refine À (Æ0 z6 (by simp) λg7 z7 e7=>?_)
 replace z7:Î1 g7 z TI TO (rawInt g5.objs.size):=z7
 refine Æ0 z7 (by simp) λg8 z8 e8=>?_
 replace z8:Î1 g8 z TI TO (rawInt g5.objs.size):=z8
 have up:∀ c o,c≠z->g5.get? c=some o->g8.get? c=some o:=λc o c1 e=>e8.extBut _ _ c1 (e7.extBut _ _ c1 (Ä _ e));have t8:Ã9 g8 g5.objs.size x y:=e8.extBut _ _ (Ò3 zl) (e7.extBut _ _ (Ò3 zl) (Î _ rfl));have s8:g8.objs.size=g5.objs.size + 1:=by rw[e8.1,e7.1,Ç4]
 rw[sz] at z8 t8 s8;refine Æ ⟨_,rfl,?_⟩;refine Æ ?_;show Q (some (.ref g5.objs.size)) _;rw[sz];exact hQ g8 z8 (up _ _ D.TOz t5) (by obtain⟨o,ho,q⟩:=r1;exact⟨o,up _ o D.i1z ho,q⟩) (by obtain⟨o,ho,q⟩:=r5;exact⟨o,up _ o D.i2z ho,q⟩) t8 s8 λc o c1 c2 c3 c4 e=>up c o c1 (kp c o c1 c2 c3 c4 e)
theorem v91{z TI TO i1 i2 l1 l2:Ç}{k:Nat}{xs ys:Array Ã}{a b:Ã}{Q:Option Ã->Å->Prop}(hh:A.handled=none)(D:ZipApart z TI TO i1 i2 l1 l2)(hz:Î1 s.heap z TI TO .none)
  (hTI:Ã9 s.heap TI (.ref i1) (.ref i2)) (hTO:Ã9 s.heap TO a b) (h1:s.heap.IsTupleIter i1 l1 k) (h2:s.heap.IsTupleIter i2 l2 k) (hl1:s.heap.IsTuple l1 xs) (hl2:s.heap.IsTuple l2 ys)
  (hend:xs[k]?=none∨ys[k]?=none) (hQ:∀ h',(∀ c o,c≠z->c≠TO->c≠i1->c≠i2->s.heap.get? c=some o->h'.get? c=some o)->Q none { s with heap:=h' }):Ï (Ô P w) A (pyNext (.ref z)) Q E s:=by
 have hT:s.TypeIs (.ref z) "zip":=⟨_,hz,rfl⟩;have fin:∀ (h':í) (e:Ç),(∀ c o,c≠z->c≠TO->c≠i1->c≠i2->s.heap.get? c=some o->h'.get? c=some o)->(∃ o,h'.get? e=some o/\o.cls=.type "StopIteration") ->
   Ï (Ô P w) A (isInstance (.ref e) (.type "StopIteration") >>= λb=>if b=true then pure none else throw (.ref e)) Q E { s with heap:=h' }:=λh' e kp he=>by
  obtain⟨o,ho,hc⟩:=he;exact À (wpAny_isInstance (T:="StopIteration") (b:=true) ⟨o,ho,hc⟩ isSubtype_stop (Æ (hQ _ kp)))
 unfold pyNext;refine À (wpAny_attempt (Á5 (name:=À8 "__next__") hT Ñ7 (Ã7 Ñ7 hT F.entry_zip_next ?_ (F.args_zip_next_1 _))));show Ï _ _ (field (.ref z) 2 >>= _) _ _ _;refine À (À2 hz rfl (x:=.bool false) rfl ?_);show Ï _ _ (field (.ref z) 3 >>= _) _ _ _;refine À (À2 hz rfl (x:=.ref TI) rfl ?_);refine À (Å3 hTI rfl ?_);show Ï _ _ (É7 (.ref z) >>= _) _ _ _;refine À ?_;unfold É7;refine À (À2 hz rfl (x:=.none) rfl (Æ ?_));simp only[if_true];refine À (Ê7 (À (À2 hz rfl (x:=.ref TO) rfl (À (Æ0 hz (by simp) λg1 z1 e1=>?_)))))
 replace z1:Î1 g1 z TI TO .ellipsis:=z1
 refine À ?_;simp only[List.zipIdx_cons,List.zipIdx_nil,É8,Ï4];refine À (À (Ö1 ?_));show Ï _ _ (nextOf (.ref i1) >>= _) _ _ _;cases hx:xs[k]? with
 |none =>
  refine À (k20 hh (h1.extBut e1.extBut D.i1z) (hl1.extBut e1.extBut D.l1z) hx λg2 e e2 he=>?_);obtain⟨oe,hoe,hce⟩:=he;have z2:Î1 g2 z TI TO .ellipsis:=e2 _ _ D.i1z.symm z1;have hez:e≠z:=λq=>by subst q;rw[z2] at hoe;cases hoe;simp at hce
  exact Æ0 z2 (by simp) λg3 _ e3=>fin g3 e (λc o c1 _ c3 _ q=>e3.extBut _ _ c1 (e2 _ _ c3 (e1.extBut _ _ c1 q))) ⟨oe,e3.extBut _ _ hez hoe,hce⟩
 |some x =>
  have hy:ys[k]?=none:=by rcases hend with q | q;rw[hx] at q;cases q;exact q
  refine À (n80 (h1.extBut e1.extBut D.i1z) (hl1.extBut e1.extBut D.l1z) hx λg2 r2 e2=>Æ ?_);have t2:Ã9 g2 TO a b:=e2.extBut _ _ D.TOi1 (e1.extBut _ _ D.TOz hTO);refine À (Å3 t2 rfl (À (Ô0 t2 λg3 t3 e3=>?_)));refine À (wpAny_letGo (Æ ?_));refine À (À (Ö1 ?_));show Ï _ _ (nextOf (.ref i2) >>= _) _ _ _;refine À (k20 hh (((h2.extBut e1.extBut D.i2z).extBut e2.extBut D.i12.symm).extBut e3.extBut D.TOi2.symm) (((hl2.extBut e1.extBut D.l2z).extBut e2.extBut D.l2i1).extBut e3.extBut D.l2TO) hy λg4 e e4 he=>?_);obtain⟨oe,hoe,hce⟩:=he;have z4:Î1 g4 z TI TO .ellipsis:=e4 _ _ D.i2z.symm (e3.extBut _ _ D.TOz.symm (e2.extBut _ _ D.i1z.symm z1));have hez:e≠z:=λq=>by subst q;rw[z4] at hoe;cases hoe;simp at hce
  exact Æ0 z4 (by simp) λg5 _ e5=>fin g5 e (λc o c1 c2 c3 c4 q=>e5.extBut _ _ c1 (e4 _ _ c4 (e3.extBut _ _ c2 (e2.extBut _ _ c3 (e1.extBut _ _ c1 q))))) ⟨oe,e5.extBut _ _ hez hoe,hce⟩
abbrev zT1(h:í)(l1:Ç):Heap:=h.push { cls:=.type "tuple_iterator",data:=.fields #[.ref l1,.int 0 0] }
abbrev zT2(h:í)(l1 l2:Ç):Heap:=(zT1 h l1).push { cls:=.type "tuple_iterator",data:=.fields #[.ref l2,.int 0 0] }
abbrev zT3(h:í)(l1 l2:Ç):Heap:=(zT2 h l1 l2).push { cls:=.type "tuple",data:=.seq #[.ref h.objs.size,.ref (zT1 h l1).objs.size] }
abbrev zT4(h:í)(l1 l2:Ç):Heap:=(zT3 h l1 l2).push { cls:=.type "tuple",data:=.seq #[.none,.none] }
abbrev zT5(h:í)(l1 l2:Ç):Heap:=(zT4 h l1 l2).push { cls:=.type "zip",data:=.fields #[.none,.bool false,.bool false,.ref (zT2 h l1 l2).objs.size,.ref (zT3 h l1 l2).objs.size] }
theorem c91(l1 l2:Ç)(xs ys:Array Ã) :
  Meets (Å2.«zip.__new__» ⟨[.type "zip",.ref l1,.ref l2],[]⟩) (λ_ R s=>s.heap.IsTuple l1 xs/\s.heap.IsTuple l2 ys/\R (.ok (.ret (.ref (zT4 s.heap l1 l2).objs.size))) { s with heap:=zT5 s.heap l1 l2 }) :=
 .of_wp λP w A R s h=>by
  obtain⟨hp,g,d,tk,os⟩:=s;obtain⟨hl1,hl2,h⟩:=h;have hsub:=sub_zip;have hL1:Ï6 (Å.heap ⟨hp,g,d,tk,os⟩) l1 xs:=hl1;have hL2:Ï6 (Å.heap ⟨hp.push { cls:=.type "tuple_iterator",data:=.fields #[.ref l1,.int 0 0] },g,d,tk,os⟩) l2 ys:=Ï6.push hl2 _
  wp_walk using È8 hL1,È8 hL2
  exact⟨_,rfl,h⟩
theorem i41(hl1:s.heap.IsTuple l1 xs)(hl2:s.heap.IsTuple l2 ys)
  (h:∀ h',Î1 h' (s.heap.objs.size + 4) (s.heap.objs.size + 2) (s.heap.objs.size + 3) .none->Ã9 h' (s.heap.objs.size + 2) (.ref s.heap.objs.size) (.ref (s.heap.objs.size + 1))->Ã9 h' (s.heap.objs.size + 3) .none .none ->
   h'.IsTupleIter s.heap.objs.size l1 0->h'.IsTupleIter (s.heap.objs.size + 1) l2 0->(∀ c o,s.heap.get? c=some o->h'.get? c=some o)->Q (.ref (s.heap.objs.size + 4)) { s with heap:=h' }) :
  Ï (Ô P w) A (call (.type "zip") [.ref l1,.ref l2]) Q E s:=by
 refine callType_new F.called_zip (-0) (F.typeCall_zip_2 _ _) (F.newCall_zip_2 _ _) (λobj=>F.args_object_init_3 obj _ _) F.entry_zip_new (c91 l1 l2 xs ys) ⟨hl1,hl2,?_⟩
 have n1:(zT1 s.heap l1).objs.size=s.heap.objs.size + 1:=Ç4 ..;have n2:(zT2 s.heap l1 l2).objs.size=s.heap.objs.size + 2:=by rw[Ç4,n1]
 have n3:(zT3 s.heap l1 l2).objs.size=s.heap.objs.size + 3:=by rw[Ç4,n2]
 have n4:(zT4 s.heap l1 l2).objs.size=s.heap.objs.size + 4:=by rw[Ç4,n3]
 have g5:(zT5 s.heap l1 l2).get? (zT4 s.heap l1 l2).objs.size=some _:=Î _ rfl;have g4:(zT5 s.heap l1 l2).get? (zT3 s.heap l1 l2).objs.size=some _:=Ä _ (Î _ rfl);have g3:(zT5 s.heap l1 l2).get? (zT2 s.heap l1 l2).objs.size=some _:=Ä _ (Ä _ (Î _ rfl));have g2:(zT5 s.heap l1 l2).get? (zT1 s.heap l1).objs.size=some _:=Ä _ (Ä _ (Ä _ (Î _ rfl)));have g1:(zT5 s.heap l1 l2).get? s.heap.objs.size=some _:=Ä _ (Ä _ (Ä _ (Ä _ (Î _ rfl))));show _/\_;rw[n2,n3,n4] at g5;rw[n1,n2] at g3;rw[n3] at g4;rw[n1] at g2;rw[n4];exact⟨⟨_,g5,rfl⟩,h _ g5 g3 g4 ⟨_,g1,rfl,rfl⟩ ⟨_,g2,rfl,rfl⟩ λc o q=>Ä _ (Ä _ (Ä _ (Ä _ (Ä _ q))))⟩
end
open PySem PySem.Spec PyProof.Rows
section
variable {X:Cx}{pins:List (Ç × Obj)}{σ:St}{H:Hp}{s:Å}{h':í}
theorem Inv.G10{t':Nat}{ch:List Ç}(I:Inv X pins σ H s)(hf:∀ b∈ch,c21 X pins H b)(k:∀ b o,b ∉ ch->s.heap.get? b=some o->h'.get? b=some o):Inv X pins σ H { s with heap:=h',toks:=t' }:=by
 have nch:∀ b u,H b=some u->b ∉ ch:=λb u e z=>by rw[(hf b z).1] at e;cases e
 refine I.step (g':=s.gens) (d':=s.drawn) (ch:=ch) (λb hb=>⟨(hf b hb).2.2.2.1,(hf b hb).2.1,(hf b hb).2.2.2.2.1,(hf b hb).2.2.2.2.2⟩) (λb o _ _ hc e _=>k b o hc e) (λb o _ _ hc e _=>⟨o.slots,k b o hc e⟩) (λ_ _ _ _ n=>n)
  (λb o hc e=>⟨o,k b o hc e⟩) (λ_ _ e=>e) (λ_ _ _ e=>e) (λb ps e=>⟨#[],by rw[e];simp⟩) (λm hm=>?_) (λb u e=>?_) I.bare
 ·obtain⟨o,es,ep,ho,r⟩:=hm;exact⟨o,es,ep,k _ o (λz=>(hf _ z).2.1 rfl) ho,r⟩
 ·refine(I.hok b u e).u31 (λc v hc q=>k c v ?_ q) (λ_ q=>q) λ_ _ q=>q;rcases hc with z | z
  ·rw[z];exact nch b u e
  ·exact nch c _ z
theorem Inv.v71{T:Ç}{o:HO}(I:Inv X pins σ H s)(f:c21 X pins H T)(h0:X.s₀.heap.objs.size<=T)(hok:HOk X.prog X.w (upd H T o) s.heap):Inv X pins σ (upd H T o) s:=by
 have u:=I.base;refine⟨I.ok,I.os,I.bare,⟨u.keep,u.slot,λb ob e n hx=>?_,u.there,λb xs e=>?_,λb ob xs e=>?_,λb ps e=>?_⟩,I.loc,I.cell,?_,λx c e=>?_,λp hp=>?_,hok,I.len⟩
 ·rw[a60 (ã (Ù (Ý e) h0))];exact u.free b ob e n hx
 ·have z:=u.tups b xs e;rw[a60 (b20 z f.1)];exact z
 ·have z:=u.frzs b ob xs e;rw[a60 (b20 z f.1)];exact z
 ·obtain⟨more,z⟩:=u.tbls b ps e;exact⟨more,by rw[a60 (b20 z f.1)];exact z⟩
 ·rw[a60 f.2.1.symm];exact I.free
 ·rw[a60 (f.2.2.2.2.1 x c e)];exact I.freeC x c e
 ·obtain⟨e,n,r⟩:=I.pin p hp;exact⟨e,by rw[a60 (f.2.2.2.2.2 p hp)];exact n,r⟩
theorem HOk.D51{P:à}{w:ö}{H:Hp}{h:í}{D:Ç}{ys:List V}{its:List Ã}(x:HOk P w H h)(hn:H D=none)(hv:Vals ys its)(hz:ys.length<=sizeLine)(ho:Ê5 h D its.toArray):HOk P w (upd H D (.tup ys)) h:=λb u e=>by
 by_cases hb:b=D
 ·subst hb;rw[c20] at e;cases e;exact⟨hz,its,hv,ho⟩
 ·rw[a60 hb] at e;exact(x b u e).u31 (λc v _ q=>q) (λc q=>by rw[a60 (b20 q hn)];exact q) λc xs q=>by rw[a60 (b20 q hn)];exact q
end
def SqB:Bool->Â->Hp->Ç->List V->Prop
 |true=>SqL|false=>SqT
def M80:Bool->í->Ç->Ç->Nat->Prop
 |true=>í.IsListIter|false=>í.IsTupleIter
def w01:Bool->í->Ç->Array Ã->Prop
 |true=>í.IsList|false=>Ï6
theorem M80.obj{b:Bool}{h:í}{it a:Ç}{i:Nat}(st:M80 b h it a i):∃ o,h.get? it=some o/\(∀ v,o.data=.cell v->False)/\∀ h':í,h'.get? it=some o->M80 b h' it a i:=by
 cases b with
 |true=>obtain⟨o,g,c,d⟩:=st;exact⟨o,g,(λv e=>by rw[d] at e;cases e),λh' k=>⟨o,k,c,d⟩⟩
 |false=>obtain⟨o,g,c,d⟩:=st;exact⟨o,g,(λv e=>by rw[d] at e;cases e),λh' k=>⟨o,k,c,d⟩⟩
theorem Inv.w11(I:Inv X pins σ H s)(h:SqB b X.K H a xs):∃ its:List Ã,Vals xs its/\w01 b s.heap a its.toArray/\a < s.heap.objs.size/\∀ ys,SqB b X.K H a ys->ys=xs:=by
 cases b with
 |true=>obtain⟨its,r,p,_⟩:=I.list h;exact⟨its,r,p.isList,by obtain⟨o,e,_⟩:=p.isList;exact Ý e,λys h'=>I.W50 h' h⟩
 |false=>obtain⟨its,r,p,_⟩:=I.tuple h;exact⟨its,r,p,by obtain⟨o,e,_⟩:=p;exact Ý e,λys h'=>I.L20 h' h⟩
section
variable {P:à}{w:ö}{A:þ}{E:Ã->Å->Prop}{s:Å}{b:Bool}{z TI TO i1 i2 l1 l2:Ç}{k:Nat}{xs ys:Array Ã}{x y p q:Ã}
theorem i51{Q:Option Ã->Å->Prop}(D:ZipApart z TI TO i1 i2 l1 l2)(hz:Î1 s.heap z TI TO .none)(hTI:Ã9 s.heap TI (.ref i1) (.ref i2))(hTO:Ã9 s.heap TO p q)(h1:M80 b s.heap i1 l1 k)(h2:M80 b s.heap i2 l2 k)(hl1:w01 b s.heap l1 xs)(hl2:w01 b s.heap l2 ys)(hx:xs[k]?=some x)(hy:ys[k]?=some y)
  (hQ:∀ h',Î1 h' z TI TO (rawInt s.heap.objs.size)->Ã9 h' TO x y->M80 b h' i1 l1 (k + 1)->M80 b h' i2 l2 (k + 1)->Ã9 h' s.heap.objs.size x y->h'.objs.size=s.heap.objs.size + 1 ->
   (∀ c o,c≠z->c≠TO->c≠i1->c≠i2->s.heap.get? c=some o->h'.get? c=some o)->Q (some (.ref s.heap.objs.size)) { s with heap:=h' }):Ï (Ô P w) A (pyNext (.ref z)) Q E s:=match b,h1,h2,hl1,hl2,hQ with
 |true,h1,h2,hl1,hl2,hQ=>wpAny_pyNext_zip_item D hz hTI hTO h1 h2 hl1 hl2 hx hy hQ|false,h1,h2,hl1,hl2,hQ=>i31 D hz hTI hTO h1 h2 hl1 hl2 hx hy hQ
theorem w21{Q:Option Ã->Å->Prop}(hh:A.handled=none)(D:ZipApart z TI TO i1 i2 l1 l2)(hz:Î1 s.heap z TI TO .none)(hTI:Ã9 s.heap TI (.ref i1) (.ref i2))(hTO:Ã9 s.heap TO p q)(h1:M80 b s.heap i1 l1 k)(h2:M80 b s.heap i2 l2 k)(hl1:w01 b s.heap l1 xs)(hl2:w01 b s.heap l2 ys)
  (hend:xs[k]?=none∨ys[k]?=none) (hQ:∀ h',(∀ c o,c≠z->c≠TO->c≠i1->c≠i2->s.heap.get? c=some o->h'.get? c=some o)->Q none { s with heap:=h' }):Ï (Ô P w) A (pyNext (.ref z)) Q E s:=match b,h1,h2,hl1,hl2 with
 |true,h1,h2,hl1,hl2=>wpAny_pyNext_zip_end hh D hz hTI hTO h1 h2 hl1 hl2 hend hQ|false,h1,h2,hl1,hl2=>v91 hh D hz hTI hTO h1 h2 hl1 hl2 hend hQ
theorem i61{Q:Ã->Å->Prop}(hl1:w01 b s.heap l1 xs)(hl2:w01 b s.heap l2 ys)
  (h:∀ h',Î1 h' (s.heap.objs.size + 4) (s.heap.objs.size + 2) (s.heap.objs.size + 3) .none->Ã9 h' (s.heap.objs.size + 2) (.ref s.heap.objs.size) (.ref (s.heap.objs.size + 1))->Ã9 h' (s.heap.objs.size + 3) .none .none ->
   M80 b h' s.heap.objs.size l1 0->M80 b h' (s.heap.objs.size + 1) l2 0->(∀ c o,s.heap.get? c=some o->h'.get? c=some o)->Q (.ref (s.heap.objs.size + 4)) { s with heap:=h' }):Ï (Ô P w) A (call (.type "zip") [.ref l1,.ref l2]) Q E s:=match b,hl1,hl2,h with
 |true,hl1,hl2,h=>call_zip_2 hl1 hl2 λh' a1 a2 a3 a4 a5 _ a6=>h h' a1 a2 a3 a4 a5 a6|false,hl1,hl2,h=>i41 hl1 hl2 h
end
def Itz(b:Bool)(K:Â)(a c:Ç):It :=
 ⟨λi H=>∃ xs ys x y,SqB b K H a xs/\SqB b K H c ys/\xs[i]?=some x/\ys[i]?=some y,
  λi H v H'=>∃ T,v=.ref T/\H T=none/\∀ xs ys x y,SqB b K H a xs->SqB b K H c ys->xs[i]?=some x->ys[i]?=some y->H'=upd H T (.tup [x,y]),
  λi H=>∃ xs ys,SqB b K H a xs/\SqB b K H c ys/\(xs.length<=i∨ys.length<=i)⟩
theorem w31{P:à}{w:ö}{K:Â}{es:List Í}{ek:Nat}{ep:Pos}{b:Bool}{a c z TI TO i1 i2:Ç}(D:ZipApart z TI TO i1 i2 a c) :
  Turn P w K (.Tuple es ek ep) (Itz b K a c) [z,TI,TO,i1,i2] z (λi h=>Î1 h z TI TO .none/\Ã9 h TI (.ref i1) (.ref i2)/\(∃ p q,Ã9 h TO p q)/\M80 b h i1 a i/\M80 b h i2 c i) where
 mem:=by simp
 obj:=λi h st c hc=>by
  obtain⟨hz,hTI,⟨p,q,hTO⟩,h1,h2⟩:=st;obtain⟨o1,h1,d1,_⟩:=h1.obj;obtain⟨o2,h2,d2,_⟩:=h2.obj;simp only[Ä4,Â1,or_false] at hc;rcases hc with rfl | rfl | rfl | rfl | rfl
  ·exact⟨_,hz,λv e=>by cases e⟩
  ·exact⟨_,hTI,λv e=>by cases e⟩
  ·exact⟨_,hTO,λv e=>by cases e⟩
  ·exact⟨_,h1,d1⟩
  ·exact⟨_,h2,d2⟩
 keep:=λi h h' st k=>by
  obtain⟨hz,hTI,⟨p,q,hTO⟩,h1,h2⟩:=st;obtain⟨o1,h1,_,r1⟩:=h1.obj;obtain⟨o2,h2,_,r2⟩:=h2.obj;exact⟨k z (by simp) _ hz,k TI (by simp) _ hTI,⟨p,q,k TO (by simp) _ hTO⟩,r1 _ (k i1 (by simp) _ h1),r2 _ (k i2 (by simp) _ h2)⟩
 item:=by
  intro X hP hw hK hc i pins s σ H E I hf st hg;subst hP hw hK;obtain⟨xs,ys,x,y,hq1,hq2,hx,hy⟩:=hg;obtain⟨v1,rv1,p1,_,z1⟩:=I.w11 hq1;obtain⟨v2,rv2,p2,_,z2⟩:=I.w11 hq2;obtain⟨u1,hu1,ru1⟩:=rv1.get hx;obtain⟨u2,hu2,ru2⟩:=rv2.get hy;obtain⟨hz,hTI,⟨p,q,hTO⟩,h1,h2⟩:=st;refine i51 D hz hTI hTO h1 h2 p1 p2 (x:=u1) (y:=u2) (by simpa using hu1) (by simpa using hu2) λg1 gz gTO g1' g2' gT gs kp=>⟨_,rfl,?_⟩
  refine wpAny_letOwnedTupleGo_zip (s:={ s with heap:=g1 }) gz λg2 gz2 sb=>?_;have hT:H s.heap.objs.size=none:=I.hok.fresh (È _);have kall:∀ c o,c ∉ [z,TI,TO,i1,i2]->s.heap.get? c=some o->g2.get? c=some o:=λc o hc e=>by
   simp only[Ä4,Â1,or_false,not_or] at hc;exact sb.extBut _ _ hc.1 (kp c o hc.1 hc.2.2.1 hc.2.2.2.1 hc.2.2.2.2 e)
  have I2:Inv X pins σ H { s with heap:=g2 }:=I.G10 (t':=s.toks) hf kall;have fT:c21 X pins H s.heap.objs.size:=I.f51 (È _) hT;have gT2:g2.get? s.heap.objs.size=some { cls:=.type "tuple",data:=.seq #[u1,u2] }:=sb.extBut _ _ (λe=>À6 _ (by have:=Ý hz;rw[← e] at this;exact this)) gT
  have I3:Inv X pins σ (upd H s.heap.objs.size (.tup [x,y])) { s with heap:=g2 }:=I2.v71 fT I.sz (I2.hok.D51 hT (its:=[u1,u2]) (.cons ru1 (.cons ru2 .nil)) (by show 2<=sizeLine;rw[Á6];decide) ⟨_,gT2,rfl,_,rfl⟩)
  have TI0:Ã9 g2 TI (.ref i1) (.ref i2):=sb.extBut _ _ D.TIz (kp _ _ D.TIz D.TITO D.TIi1 D.TIi2 hTI);obtain⟨o1,w1,_,r1⟩:=g1'.obj;obtain⟨o2,w2,_,r2⟩:=g2'.obj;refine⟨.ref s.heap.objs.size,_,I3,rfl,⟨_,rfl,hT,λxs' ys' x' y' e1 e2 e3 e4=>?_⟩,⟨gz2,TI0,⟨_,_,sb.extBut _ _ D.TOz gTO⟩,r1 _ (sb.extBut _ _ D.i1z w1),r2 _ (sb.extBut _ _ D.i2z w2)⟩,λc hc=>?_⟩
  ·rw[z1 _ e1] at e3;rw[z2 _ e2] at e4;rw[hx] at e3;rw[hy] at e4;cases e3;cases e4;rfl
  ·rw[a60]
   ·exact(hf c hc).1
   ·intro e;obtain⟨o1,h1,_⟩:=h1.obj;obtain⟨o2,h2,_⟩:=h2.obj;have lt:c < s.heap.objs.size:=by
     simp only[Ä4,Â1,or_false] at hc;rcases hc with rfl | rfl | rfl | rfl | rfl
     ·exact Ý hz
     ·exact Ý hTI
     ·exact Ý hTO
     ·exact Ý h1
     ·exact Ý h2
    rw[e] at lt;exact À6 _ lt
 done:=by
  intro X hP hw hK hc i pins s σ H E I hf st hg;subst hP hw hK;obtain⟨xs,ys,hq1,hq2,hend⟩:=hg;obtain⟨v1,rv1,p1,_⟩:=I.w11 hq1;obtain⟨v2,rv2,p2,_⟩:=I.w11 hq2;obtain⟨hz,hTI,⟨p,q,hTO⟩,h1,h2⟩:=st;have l1:=rv1.length;have l2:=rv2.length;refine w21 (I.ok.hd hc) D hz hTI hTO h1 h2 p1 p2 (hend.elim (λe=>.inl (by simp;omega)) λe=>.inr (by simp;omega)) λg kp=>⟨rfl,I.G10 (t':=s.toks) hf λc o hcn e=>?_⟩
  simp only[Ä4,Â1,or_false,not_or] at hcn;exact kp c o hcn.1 hcn.2.2.1 hcn.2.2.2.1 hcn.2.2.2.2 e
 self:=λ_ _ _ _ _ st h=>wpAny_pyIter_zip st.1 h
def C22(K:Â)(ta:TA):TI:=λσ H R=>ta σ H λvs H1=>∃ b a c,vs=[.ref a,.ref c]/\(∃ xs,SqB b K H1 a xs)/\(∃ ys,SqB b K H1 c ys)/\R (Itz b K a c) H1
theorem boot_zip:ë "zip"=some (.type "zip"):=by decide +kernel
theorem Y11{X:Cx}{a b:Í}{es:List Í}{ek:Nat}{ep:Pos}{ta:TA}{p pos:Pos}(hg:Gl X "zip")(hm:X.mg "zip"=none)(ha:PA X [a,b] ta)(hs:ù [a,b] X.env=[(false,eval a X.env),(false,eval b X.env)]:=by rfl)(hs2:ù [b] X.env=[(false,eval b X.env)]:=by rfl) :
  PI X (.Tuple es ek ep) (.Call (.Name "zip" p) [a,b] [] pos) (C22 X.K ta):=by
 intro pins s σ H R I h;refine Call_ (r40 I hg hm boot_zip (ÿ (thn (ha pos pins s σ H _ I h) λus s1 ⟨vs,H1,I1,r1,q1⟩=>?_) (by rw[hs,hs2]) (by rw[hs2];rfl)))
 obtain⟨b,l1,l2,e,⟨xs,hq1⟩,⟨ys,hq2⟩,q⟩:=q1;subst e;obtain⟨u,w',rfl,r,r'⟩:=vals2 r1;cases r;cases r';obtain⟨v1,rv1,p1,a1,_⟩:=I1.w11 hq1;obtain⟨v2,rv2,p2,a2,_⟩:=I1.w11 hq2;refine i61 p1 p2 λh' hz hTI hTO h1 h2 kp=>wpAny_pyIter_zip (s:={ s1 with heap:=h' }) hz ?_;refine⟨_,[s1.heap.objs.size + 4,s1.heap.objs.size + 2,s1.heap.objs.size + 3,s1.heap.objs.size,s1.heap.objs.size + 1],_,_,H1,rfl,I1.kept (t':=s1.toks) kp,w31 (PyProof.Rows.zipApart_new a1 a2),⟨hz,hTI,⟨_,_,hTO⟩,h1,h2⟩,λc hc=>?_,q⟩;have hc':s1.heap.objs.size<=c:=by
  simp only[Ä4,Â1,or_false] at hc;rcases hc with rfl | rfl | rfl | rfl | rfl
  ·exact Ç5 _ 4
  ·exact Ç5 _ 2
  ·exact Ç5 _ 3
  ·exact È _
  ·exact Ç5 _ 1
 exact I1.f51 hc' (I1.hok.fresh hc')
theorem w41(hc:X.calm=true):f70 X (.builtin "all") (λxs H Q=>∃ (a:Ç) (bs:List Bool),xs=[.ref a]/\SqL X.K H a (bs.map V.bl)/\Q (.bl (bs.all id)) H):=by
 intro pins s σ H xs us Q I r h;obtain⟨a,bs,rfl,hq,q⟩:=h;obtain⟨u,rfl,rx⟩:=vals1 r;cases rx;obtain⟨its,rv,pl,hz⟩:=I.list hq;have hlt:a < s.heap.objs.size:=by obtain⟨_,e,_⟩:=pl.isList;exact Ý e
 have hlen:its.length=bs.length:=by have:=rv.length;simpa using this.symm
 refine call_all_walk (wpAny_pyIter_list pl.isList ⟨_,_,_,_,_,_,λi=>(bs[i]?).getD true,rfl,Walks.list (by exact I.ok.hd hc) s.heap.objs.size a (ã hlt) its.toArray,⟨⟨_,Î _ rfl,rfl,rfl⟩,pl.isList.push _⟩,?_,?_⟩)
 ·intro i v s' Q' E' hP hQ;have hP':its[i]?=some v:=by simpa using hP
  have hi:i < bs.length:=by rw[← hlen];exact(Þ.mp hP').1
  obtain⟨v',hv',rv'⟩:=rv.get (i:=i) (x:=.bl bs[i]) (by simp[hi])
  rw[hP'] at hv';cases hv';cases (show v=Ë4 _ from rv');exact Á0 (by simpa [hi] using hQ)
 ·intro h' tk kp;refine⟨.bl (bs.all id),H,I.kept λb o e=>kp b o (by simpa using ã (Ý e)) (Ä _ e),?_,q⟩
  show Ë4 _=Ë4 _;rw[Ó,hlen,PyProof.Rows.LSm.range_all]
end L2
namespace MySort
open PySem PySem.W PyProof.Rows
def run{α:Type}(cmp:Nat->Nat->Bool):KasT α->α
 |.ret a=>a|.ask i j k=>run cmp (k (cmp i j))
theorem run_bind(cmp:Nat->Nat->Bool)(f:α->KasT β):∀ t:KasT α,run cmp (t.bind f)=run cmp (f (run cmp t))
 |.ret _=>rfl|.ask i j k=>run_bind cmp f (k (cmp i j))
section
variable (O:KeyOrd) (key:Nat->O.α)
def kk(p:Array Nat)(i:Nat):O.α:=key (p.getD i 0)
abbrev j10:Nat->Nat->Bool:=λi j=>O.blt (key i) (key j)
def Up(p:Array Nat)(n:Nat):Prop:=∀ i j,i<=j->j < n->O.kle (kk O key p i) (kk O key p j)
def Dn(p:Array Nat)(n:Nat):Prop:=∀ i j,i<=j->j < n->O.kle (kk O key p j) (kk O key p i)
variable {O key}
theorem r50(h:p[i]?=q[j]?):kk O key p i=kk O key q j:=by
 unfold kk;rw[Ê8,Ê8,h]
theorem i71(hj:j<=p.size)(k:Nat):kk O key (Æ1 p i j) k=if i<=k/\k < j then kk O key p (i + j - 1 - k) else kk O key p k:=by
 have e:=getElem?_mirror_all (i:=i) hj k;unfold Æ1;by_cases h1:i<=k/\k < j
 ·rw[if_pos h1] at e ⊢;exact r50 e
 ·rw[if_neg h1] at e ⊢;exact r50 e
theorem Y21(hs:k < p.size)(hd:d<=k)(i:Nat) :
  kk O key (bubble p k d) i=if i=k - d then kk O key p k else if k - d < i/\i<=k then kk O key p (i - 1) else kk O key p i:=by
 have e:=getElem?_bubble hs d hd i;by_cases h1:i=k - d
 ·rw[if_pos h1] at e ⊢;exact r50 e
 ·rw[if_neg h1] at e ⊢;by_cases h2:k - d < i/\i<=k
  ·rw[if_pos h2] at e ⊢;exact r50 e
  ·rw[if_neg h2] at e ⊢;exact r50 e
theorem Up.more(h:Up O key p n)(h1:1<=n)(hl:O.kle (kk O key p (n - 1)) (kk O key p n)):Up O key p (n + 1):=by
 intro i j hij hj;by_cases e:j=n
 ·subst e;by_cases e2:i=j
  ·subst e2;exact Å1 _
  ·exact Õ5 (h i (j - 1) ∅ ∅) hl
 ·exact h i j hij ∅
theorem Dn.more(h:Dn O key p n)(h1:1<=n)(hl:O.kle (kk O key p n) (kk O key p (n - 1))):Dn O key p (n + 1):=by
 intro i j hij hj;by_cases e:j=n
 ·subst e;by_cases e2:i=j
  ·subst e2;exact Å1 _
  ·exact Õ5 hl (h i (j - 1) ∅ ∅)
 ·exact h i j hij ∅
theorem i81:∀ (f n:Nat),1<=n->Up O key p n ->
  n<=run (j10 O key) (Æ2 p f n)/\run (j10 O key) (Æ2 p f n)<=n + f/\Up O key p (run (j10 O key) (Æ2 p f n)) /\
   (run (j10 O key) (Æ2 p f n) < n + f->O.klt (kk O key p (run (j10 O key) (Æ2 p f n))) (kk O key p (run (j10 O key) (Æ2 p f n) - 1)))
 |0,n,h1,hu=>⟨È _,È _,hu,λh=>absurd h (À6 _)⟩
 |f + 1,n,h1,hu=>by
  show n<=run _ (if O.blt (kk O key p n) (kk O key p (n - 1))=true then Î7 n else Æ2 p f (n + 1))/\run _ (if O.blt (kk O key p n) (kk O key p (n - 1))=true then Î7 n else Æ2 p f (n + 1))<=n + (f + 1) /\
   Up O key p (run _ (if O.blt (kk O key p n) (kk O key p (n - 1))=true then Î7 n else Æ2 p f (n + 1))) /\
   (run _ (if O.blt (kk O key p n) (kk O key p (n - 1))=true then Î7 n else Æ2 p f (n + 1)) < n + (f + 1) ->
    O.klt (kk O key p (run _ (if O.blt (kk O key p n) (kk O key p (n - 1))=true then Î7 n else Æ2 p f (n + 1)))) (kk O key p (run _ (if O.blt (kk O key p n) (kk O key p (n - 1))=true then Î7 n else Æ2 p f (n + 1)) - 1)))
  cases hb:O.blt (kk O key p n) (kk O key p (n - 1)) with
  |true =>
   simp only[if_true];exact⟨È _,by show n<=n + (f + 1);omega,hu,λ_=>hb⟩
  |false =>
   simp only[È1,if_false];have ih:=i81 f (n + 1) ∅ (hu.more h1 hb)
   refine⟨by omega,by omega,ih.2.2.1,λh=>ih.2.2.2 ∅⟩
theorem rev_eq(hj:j<=p.size)(he:∀ k,i<=k->k < j->kk O key p k=kk O key p (j - 1))(k:Nat):kk O key (Æ1 p i j) k=kk O key p k:=by
 rw[i71 hj];split
 ·rw[he _ ∅ ∅,he k ∅ ∅]
 ·rfl
theorem G20(p:Array Nat)(i j:Nat):(Æ1 p i j).Perm p:=mirror_perm _ _ _ _
theorem G30(p:Array Nat)(i j:Nat):(Æ1 p i j).size=p.size:=mirror_size _ _ _ _
structure DnR(O:KeyOrd)(key:Nat->O.α)(p0 p:Array Nat)(n q:Nat):Prop where
 perm:p.Perm p0
 size:p.size=p0.size
 pos:q + 1<=n
 dn:Dn O key p n
 eq:∀ k,n - (q + 1)<=k->k < n->kk O key p k=kk O key p (n - 1)
theorem DnR.rev(h:DnR O key p0 p n q)(hn:n<=p0.size):DnR O key p0 (Æ1 p (n - (q + 1)) n) n q:=by
 have hz:=h.size;have e:=rev_eq (O:=O) (key:=key) (i:=n - (q + 1)) (j:=n) (p:=p) ∅ h.eq
 exact⟨(G20 _ _ _).trans h.perm,(G30 _ _ _).trans hz,h.pos,λi j hij hj=>by rw[e,e];exact h.dn i j hij hj,λk h1 h2=>by rw[e,e];exact h.eq k h1 h2⟩
theorem R60:∀ (f:Nat) (p:Array Nat) (n q:Nat),DnR O key p0 p n q->n + f<=p0.size ->
  n<=(run (j10 O key) (Á7 f p n q)).2.1/\(run (j10 O key) (Á7 f p n q)).2.1<=n + f /\
   DnR O key p0 (run (j10 O key) (Á7 f p n q)).1 (run (j10 O key) (Á7 f p n q)).2.1 (run (j10 O key) (Á7 f p n q)).2.2
 |0,p,n,q,h,_=>⟨È _,È _,h⟩
 |f + 1,p,n,q,h,hn=>by
  have hp:=h.pos;have hz:=h.size;have unf:run (j10 O key) (Á7 (f + 1) p n q)=run (j10 O key) (if O.blt (kk O key p n) (kk O key p (n - 1))=true then(if q > 0 then Á7 f (Æ1 p (n - (q + 1)) n) (n + 1) 0 else Á7 f p (n + 1) 0)
   else .ask (p.getD (n - 1) 0) (p.getD n 0) λd=>if d=true then .ret (p,n,q) else Á7 f p (n + 1) (q + 1)):=rfl
  rw[unf];cases hb:O.blt (kk O key p n) (kk O key p (n - 1)) with
  |true =>
   simp only[if_true];have go:∀ p',DnR O key p0 p' n q->(∀ k,kk O key p' k=kk O key p k)->n<=(run (j10 O key) (Á7 f p' (n + 1) 0)).2.1/\(run (j10 O key) (Á7 f p' (n + 1) 0)).2.1<=n + (f + 1) /\
     DnR O key p0 (run (j10 O key) (Á7 f p' (n + 1) 0)).1 (run (j10 O key) (Á7 f p' (n + 1) 0)).2.1 (run (j10 O key) (Á7 f p' (n + 1) 0)).2.2:=λp' h' e=>by
    have ih:=R60 f p' (n + 1) 0 ⟨h'.perm,h'.size,by omega,h'.dn.more ∅ (by rw[e,e];exact Ì6 hb),λk h1 h2=>by
     have:k=n:=by omega
     subst this;rfl⟩ ∅
    exact⟨by omega,by omega,ih.2.2⟩
   split
   ·exact go _ (h.rev ∅) (rev_eq ∅ h.eq)
   ·exact go _ h λ_=>rfl
  |false =>
   simp only[È1,if_false];have unf2:run (j10 O key) (KasT.ask (p.getD (n - 1) 0) (p.getD n 0) λd=>if d=true then .ret (p,n,q) else Á7 f p (n + 1) (q + 1)) =
    run (j10 O key) (if O.blt (kk O key p (n - 1)) (kk O key p n)=true then .ret (p,n,q) else Á7 f p (n + 1) (q + 1)):=rfl
   rw[unf2];cases hc:O.blt (kk O key p (n - 1)) (kk O key p n) with
   |true =>
    simp only[if_true];exact⟨È _,by show n<=n + (f + 1);omega,h⟩
   |false =>
    simp only[È1,if_false];have e:kk O key p n=kk O key p (n - 1):=O.total _ _ hb hc;have ih:=R60 f p (n + 1) (q + 1) ⟨h.perm,h.size,by omega,h.dn.more ∅ (by rw[e];exact Å1 _),λk h1 h2=>by
     show _=kk O key p n;by_cases hk:k=n
     ·rw[hk]
     ·rw[e];exact h.eq k ∅ ∅⟩ ∅
    exact⟨by omega,by omega,ih.2.2⟩
structure o32(O:KeyOrd)(key:Nat->O.α)(p0:Array Nat)(nrem:Nat)(r:Nat × Array Nat):Prop where
 perm:r.2.Perm p0
 size:r.2.size=p0.size
 lo:1<=r.1
 hi:r.1<=nrem
 up:Up O key r.2 r.1
theorem X00(hp:p.Perm p0)(hz:p.size=p0.size)(hd:Dn O key p n)(h1:1<=n)(hn:n<=nrem)(hr:nrem<=p0.size):o32 O key p0 nrem (run (j10 O key) (kas_tail3 n nrem p)):=by
 unfold kas_tail3;rw[run_bind];have hu:Up O key (Æ1 p 0 n) n:=λi j hij hj=>by
  rw[i71 ∅,i71 ∅,if_pos ∅,if_pos ∅]
  exact hd _ _ ∅ ∅
 have a:=i81 (O:=O) (key:=key) (p:=Æ1 p 0 n) (nrem - n) n h1 hu;exact⟨(G20 _ _ _).trans hp,(G30 _ _ _).trans hz,by show 1<=run _ (Æ2 _ _ _);omega,by show run _ (Æ2 _ _ _)<=_;omega,a.2.2.1⟩
theorem z90(hp:p.Perm p0)(hz:p.size=p0.size)(hd:Dn O key p (n + 1))(hn:n + 1<=nrem)(hr:nrem<=p0.size):o32 O key p0 nrem (run (j10 O key) (Í2 n nrem p)):=by
 unfold Í2;rw[run_bind];have d:=R60 (O:=O) (key:=key) (p0:=p0) (nrem - (n + 1)) p (n + 1) 0 ⟨hp,hz,by omega,hd,λk h1 h2=>by
  have:k=n:=by omega
  subst this;rfl⟩ ∅
 obtain⟨d1,d2,d3⟩:=d;have hpos:=d3.pos;split
 ·have d4:=d3.rev ∅
  exact X00 d4.perm d4.size d4.dn ∅ ∅ hr
 ·exact X00 d3.perm d3.size d3.dn ∅ ∅ hr
theorem w51(h1:1<=nrem)(hr:nrem<=p.size):o32 O key p nrem (run (j10 O key) (Ú7 nrem p)):=by
 unfold Ú7;rw[run_bind];have a:=i81 (O:=O) (key:=key) (p:=p) (nrem - 1) 1 (È _) (λi j hij hj=>by
  have:i=j:=by omega
  subst this;exact Å1 _)
 generalize run (j10 O key) (Æ2 p (nrem - 1) 1)=n at a ⊢;obtain⟨a1,a2,a3,a4⟩:=a;split
 ·exact⟨É4 _,rfl,a1,by show n<=nrem;omega,a3⟩
 ·rename_i hne;have hlt:n < nrem:=by
   have:n≠nrem:=by simpa using hne
   omega
  have hl:=a4 ∅
  split
  ·rename_i h2;have unf:run (j10 O key) (KasT.ask (p.getD 0 0) (p.getD (n - 1) 0) λc=>if c=true then .ret (n,p) else Í2 n nrem (Æ1 p 0 n)) =
    run (j10 O key) (if O.blt (kk O key p 0) (kk O key p (n - 1))=true then .ret (n,p) else Í2 n nrem (Æ1 p 0 n)):=rfl
   rw[unf];cases hb:O.blt (kk O key p 0) (kk O key p (n - 1)) with
   |true =>
    simp only[if_true];exact⟨É4 _,rfl,a1,by show n<=nrem;omega,a3⟩
   |false =>
    simp only[È1,if_false];have e0:kk O key p 0=kk O key p (n - 1):=O.total _ _ hb (a3 0 (n - 1) ∅ ∅)
    have e:∀ k,0<=k->k < n->kk O key p k=kk O key p (n - 1):=λk _ hk=>by
     refine KeyOrd.kle_antisymm (a3 k (n - 1) ∅ ∅) ?_
     rw[← e0];exact a3 0 k ∅ hk
    have er:=rev_eq (O:=O) (key:=key) (i:=0) (j:=n) (p:=p) ∅ e
    refine z90 (G20 _ _ _) (G30 _ _ _) ?_ ∅ hr
    have dn:Dn O key (Æ1 p 0 n) n:=λi j hij hj=>by
     rw[er,er,e i ∅ ∅,e j ∅ ∅];exact Å1 _
    refine dn.more a1 ?_;rw[er,er];exact Ì6 hl
  ·have h2:n=1:=by omega
   subst h2;refine z90 (É4 _) rfl ?_ ∅ hr
   have dn:Dn O key p 1:=λi j hij hj=>by
    have:i=j:=by omega
    subst this;exact Å1 _
   exact dn.more (È _) (Ì6 hl)
theorem G40(hu:Up O key p k):∀ (f l r:Nat),l<=r->r<=k->r - l<=f->(∀ i,i < l->O.kle (kk O key p i) (kk O key p k))->(∀ i,r<=i->i < k->O.klt (kk O key p k) (kk O key p i)) ->
  run (j10 O key) (Â7 p k f l r)<=k/\(∀ i,i < run (j10 O key) (Â7 p k f l r)->O.kle (kk O key p i) (kk O key p k))/\(∀ i,run (j10 O key) (Â7 p k f l r)<=i->i < k->O.klt (kk O key p k) (kk O key p i))
 |0,l,r,h1,h2,h3,h4,h5=>by
  have:l=r:=by omega
  subst this;exact⟨h2,h4,h5⟩
 |f + 1,l,r,h1,h2,h3,h4,h5=>by
  have unf:Â7 p k (f + 1) l r=(if l ≥ r then .ret l else .ask (p.getD k 0) (p.getD ((l + r) / 2) 0) λc=>if c=true then Â7 p k f l ((l + r) / 2) else Â7 p k f ((l + r) / 2 + 1) r):=rfl;rw[unf];by_cases hlr:l ≥ r
  ·rw[if_pos hlr];have:l=r:=by omega
   subst this;exact⟨h2,h4,h5⟩
  ·rw[if_neg hlr];have unf2:run (j10 O key) (KasT.ask (p.getD k 0) (p.getD ((l + r) / 2) 0) λc=>if c=true then Â7 p k f l ((l + r) / 2) else Â7 p k f ((l + r) / 2 + 1) r) =
    run (j10 O key) (if O.blt (kk O key p k) (kk O key p ((l + r) / 2))=true then Â7 p k f l ((l + r) / 2) else Â7 p k f ((l + r) / 2 + 1) r):=rfl
   rw[unf2];cases hb:O.blt (kk O key p k) (kk O key p ((l + r) / 2)) with
   |true =>
    simp only[if_true];exact G40 hu f l ((l + r) / 2) ∅ ∅ ∅ h4 λi hi hk=>KeyOrd.klt_of_klt_of_kle hb (hu _ i hi hk)
   |false =>
    simp only[È1,if_false];exact G40 hu f ((l + r) / 2 + 1) r ∅ ∅ ∅ (λi hi=>Õ5 (hu i ((l + r) / 2) ∅ ∅) hb) h5
theorem D61:∀ (f:Nat) (p:Array Nat) (k:Nat),p.Perm p0->p.size=p0.size->Up O key p k->k + f<=p0.size ->
  (run (j10 O key) (kas_bin f p k)).Perm p0/\Up O key (run (j10 O key) (kas_bin f p k)) (k + f)
 |0,p,k,hp,_,hu,_=>⟨hp,hu⟩
 |f + 1,p,k,hp,hz,hu,hk=>by
  have unf:kas_bin (f + 1) p k=(Â7 p k k 0 k).bind λl=>kas_bin f (bubble p k (k - l)) (k + 1):=rfl;rw[unf,run_bind];have pl:=G40 (O:=O) (key:=key) hu k 0 k ∅ ∅ ∅ (λi hi=>absurd hi (Ù6 _)) (λi h1 h2=>absurd h2 ∅)
  generalize run (j10 O key) (Â7 p k k 0 k)=l at pl ⊢;obtain⟨l1,l2,l3⟩:=pl;have hb:=Y21 (O:=O) (key:=key) (p:=p) (k:=k) (d:=k - l) ∅ ∅
  have hu':Up O key (bubble p k (k - l)) (k + 1):=λi j hij hj=>by
   rw[hb,hb];have el:k - (k - l)=l:=by omega
   rw[el];by_cases ei:i=l
   ·rw[if_pos ei];by_cases ej:j=l
    ·rw[if_pos ej];exact Å1 _
    ·rw[if_neg ej,if_pos ∅]
     exact Ì6 (l3 _ ∅ ∅)
   ·rw[if_neg ei];by_cases hi:l < i/\i<=k
    ·rw[if_pos hi,if_neg ∅,if_pos ∅]
     exact hu _ _ ∅ ∅
    ·rw[if_neg hi];by_cases ej:j=l
     ·rw[if_pos ej];exact l2 _ ∅
     ·rw[if_neg ej];by_cases hj':l < j/\j<=k
      ·rw[if_pos hj'];exact hu _ _ ∅ ∅
      ·rw[if_neg hj'];exact hu _ _ hij ∅
  have ih:=D61 (p0:=p0) f (bubble p k (k - l)) (k + 1) ((bubble_perm _ _ _).trans hp) ((bubble_size _ _ _).trans hz) hu' ∅
  exact⟨ih.1,by have:=ih.2;rwa [show k + 1 + f=k + (f + 1) by omega] at this⟩
theorem K41(h1:1<=n):(run (j10 O key) (Í8 n)).Perm (î n).toArray/\Up O key (run (j10 O key) (Í8 n)) n:=by
 unfold Í8;rw[run_bind];have c:=w51 (O:=O) (key:=key) (p:=(î n).toArray) h1 (by simp)
 generalize run (j10 O key) (Ú7 n (î n).toArray)=r at c ⊢;obtain⟨c1,c2,c3,c4,c5⟩:=c;split
 ·have b:=D61 (O:=O) (key:=key) (n - max r.1 1) r.2 (max r.1 1) c1 c2 (by rw[Nat.max_eq_left c3];exact c5) (by simp;omega)
  exact⟨b.1,by have:=b.2;rwa [show max r.1 1 + (n - max r.1 1)=n by omega] at this⟩
 ·have:r.1=n:=by omega
  rw[this] at c5;exact⟨c1,c5⟩
end
def l70{α:Type}(n:Nat):KasT α->Prop
 |.ret _=>True|.ask i j k=>(i < n/\j < n)/\∀ b,l70 n (k b)
def M90{α:Type}(G:α->Prop):KasT α->Prop
 |.ret a=>G a|.ask _ _ k=>∀ b,M90 G (k b)
theorem l70.bind{α β:Type}{n:Nat}{f:α->KasT β}{G:α->Prop}(hf:∀ a,G a->l70 n (f a)):∀ {t:KasT α},l70 n t->M90 G t->l70 n (t.bind f)
 |.ret a,_,g=>hf a g|.ask _ _ _,h,g=>⟨h.1,λb=>l70.bind hf (h.2 b) (g b)⟩
theorem M90.bind{α β:Type}{f:α->KasT β}{G:α->Prop}{G':β->Prop}(hf:∀ a,G a->M90 G' (f a)):∀ {t:KasT α},M90 G t->M90 G' (t.bind f)
 |.ret a,g=>hf a g|.ask _ _ _,g=>λb=>M90.bind hf (g b)
def Low(n:Nat)(p:Array Nat):Prop:=∀ i,p.getD i 0 < n
theorem i91(h1:1<=n)(hp:p.Perm q)(hq:∀ x∈q.toList,x < n):Low n p:=λi=>by
 by_cases hi:i < p.size
 ·have e:p.getD i 0=p[i]:=by simp[Array.getD,hi]
  rw[e];exact hq _ (hp.toList.mem_iff.mp (by simp))
 ·have e:p.getD i 0=0:=by simp[Array.getD,hi]
  rw[e];exact h1
structure Good(n:Nat)(q p:Array Nat):Prop where
 low:Low n p
 perm:p.Perm q
theorem Good.rev(h1:1<=n)(hq:∀ x∈q.toList,x < n)(g:Good n q p)(i j:Nat):Good n q (Æ1 p i j) :=
 have e:=(mirror_perm p i j ((j - i) / 2)).trans g.perm
 ⟨i91 h1 e hq,e⟩
theorem Good.bub(h1:1<=n)(hq:∀ x∈q.toList,x < n)(g:Good n q p)(i j:Nat):Good n q (bubble p i j) :=
 have e:=(bubble_perm p i j).trans g.perm
 ⟨i91 h1 e hq,e⟩
section
variable {n:Nat}{q:Array Nat}
theorem G50(g:Low n p):∀ (f k:Nat),l70 n (Æ2 p f k)
 |0,_=>trivial|f + 1,k=>⟨⟨g _,g _⟩,λb=>by cases b with | true=>exact trivial | false=>exact G50 g f (k + 1)⟩
theorem r60:∀ (f k:Nat),M90 (λ_=>True) (Æ2 p f k)
 |0,_=>trivial|f + 1,k=>λb=>by cases b with | true=>exact trivial | false=>exact r60 f (k + 1)
theorem A00(h1:1<=n)(hq:∀ x∈q.toList,x < n):∀ (f:Nat) (p:Array Nat) (k c:Nat),Good n q p->l70 n (Á7 f p k c)/\M90 (λr=>Good n q r.1) (Á7 f p k c)
 |0,p,k,c,g=>⟨trivial,g⟩
 |f + 1,p,k,c,g=>by
  have a:=λp' k' c' g'=>(A00 h1 hq f p' k' c' g').1;have r:=λp' k' c' g'=>(A00 h1 hq f p' k' c' g').2;refine⟨⟨⟨g.low _,g.low _⟩,λb=>?_⟩,λb=>?_⟩
  ·cases b with
   |true =>
    show l70 n (if c > 0 then Á7 f (Æ1 p (k - (c + 1)) k) (k + 1) 0 else Á7 f p (k + 1) 0);split
    ·exact a _ _ _ (g.rev h1 hq _ _)
    ·exact a _ _ _ g
   |false=>exact⟨⟨g.low _,g.low _⟩,λd=>by cases d with | true=>exact trivial | false=>exact a _ _ _ g⟩
  ·cases b with
   |true =>
    show M90 _ (if c > 0 then Á7 f (Æ1 p (k - (c + 1)) k) (k + 1) 0 else Á7 f p (k + 1) 0);split
    ·exact r _ _ _ (g.rev h1 hq _ _)
    ·exact r _ _ _ g
   |false=>exact λd=>by cases d with | true=>exact g | false=>exact r _ _ _ g
theorem n90(h1:1<=n)(hq:∀ x∈q.toList,x < n)(g:Good n q p)(k m:Nat):l70 n (kas_tail3 k m p)/\M90 (λr=>Good n q r.2) (kas_tail3 k m p) :=
 have g':=g.rev h1 hq 0 k
 And.intro (l70.bind (f:=λm'=>Î7 (m',Æ1 p 0 k)) (λ_ _=>È2) (G50 g'.low (m - k) k) (r60 (m - k) k)) (M90.bind (f:=λm'=>Î7 (m',Æ1 p 0 k)) (G':=λr=>Good n q r.2) (λ_ _=>g') (r60 (m - k) k))
theorem g10(h1:1<=n)(hq:∀ x∈q.toList,x < n)(g:Good n q p)(k m:Nat):l70 n (Í2 k m p)/\M90 (λr=>Good n q r.2) (Í2 k m p):=by
 have d:=A00 h1 hq (m - (k + 1)) p (k + 1) 0 g;refine⟨l70.bind (λr gr=>?_) d.1 d.2,M90.bind (λr gr=>?_) d.2⟩
 ·split
  ·exact(n90 h1 hq (gr.rev h1 hq _ _) _ _).1
  ·exact(n90 h1 hq gr _ _).1
 ·split
  ·exact(n90 h1 hq (gr.rev h1 hq _ _) _ _).2
  ·exact(n90 h1 hq gr _ _).2
theorem d01(h1:1<=n)(hq:∀ x∈q.toList,x < n)(g:Good n q p)(m:Nat):l70 n (Ú7 m p)/\M90 (λr=>Good n q r.2) (Ú7 m p):=by
 refine⟨l70.bind (λk _=>?_) (G50 g.low _ _) (r60 _ _),M90.bind (λk _=>?_) (r60 _ _)⟩
 ·split
  ·exact trivial
  ·split
   ·exact⟨⟨g.low _,g.low _⟩,λb=>by cases b with | true=>exact trivial | false=>exact(g10 h1 hq (g.rev h1 hq _ _) _ _).1⟩
   ·exact(g10 h1 hq g _ _).1
 ·split
  ·exact g
  ·split
   ·exact λb=>by cases b with | true=>exact g | false=>exact(g10 h1 hq (g.rev h1 hq _ _) _ _).2
   ·exact(g10 h1 hq g _ _).2
theorem g40(g:Low n p)(k:Nat):∀ (f l r:Nat),l70 n (Â7 p k f l r)/\M90 (λ_=>True) (Â7 p k f l r)
 |0,_,_=>⟨trivial,trivial⟩
 |f + 1,l,r=>by
  have e:Â7 p k (f + 1) l r=(if l ≥ r then .ret l else .ask (p.getD k 0) (p.getD ((l + r) / 2) 0) λc=>if c=true then Â7 p k f l ((l + r) / 2) else Â7 p k f ((l + r) / 2 + 1) r):=rfl;rw[e];split
  ·exact⟨trivial,trivial⟩
  ·refine⟨⟨⟨g _,g _⟩,λb=>?_⟩,λb=>?_⟩
   ·cases b with
    |true=>exact(g40 g k f _ _).1|false=>exact(g40 g k f _ _).1
   ·cases b with
    |true=>exact(g40 g k f _ _).2|false=>exact(g40 g k f _ _).2
theorem X10(h1:1<=n)(hq:∀ x∈q.toList,x < n):∀ (f:Nat) (p:Array Nat) (k:Nat),Good n q p->l70 n (kas_bin f p k)
 |0,_,_,_=>trivial|f + 1,p,k,g=>l70.bind (λl _=>X10 h1 hq f _ _ (g.bub h1 hq _ _)) (g40 g.low k k 0 k).1 (g40 g.low k k 0 k).2
theorem j01(h1:1<=n):l70 n (Í8 n):=by
 have hq:∀ x∈((î n).toArray).toList,x < n:=λx hx=>by simpa using hx
 have g:Good n (î n).toArray (î n).toArray:=⟨i91 h1 (É4 _) hq,É4 _⟩;have c:=d01 h1 hq g n;refine l70.bind (λr gr=>?_) c.1 c.2;split
 ·exact X10 h1 hq _ _ _ gr
 ·exact trivial
end
theorem N00{α:Type}{n:Nat}{cmp:Nat->Nat->Bool}{ask:Nat->Nat->(Bool->Å->Prop)->Å->Prop}{s:Å}(h:∀ i j (C:Bool->Å->Prop),i < n->j < n->C (cmp i j) s->ask i j C s){Q:α->Å->Prop} :
  ∀ (t:KasT α),l70 n t->Q (run cmp t) s->t.kasWp ask Q s
 |.ret _,_,q=>q|.ask i j k,a,q=>h i j _ a.1.1 a.1.2 (N00 h (k (cmp i j)) (a.2 _) q)
def h40:List Int->List Int->Bool
 |[],[]=>false|[],_::_=>true|_::_,[]=>false|x::r,y::q=>if x=y then h40 r q else decide (x < y)
theorem p70:∀ a,h40 a a=false
 |[]=>rfl|x::r=>by show(if x=x then h40 r r else _)=_;rw[if_pos rfl];exact p70 r
theorem o00:∀ a b c,h40 a b=true->h40 b c=true->h40 a c=true
 |[],[],_,h,_=>by cases h
 |[],_::_,[],_,h=>by cases h
 |[],_::_,_::_,_,_=>rfl|_::_,[],_,h,_=>by cases h
 |_::_,_::_,[],_,h=>by cases h
 |x::a,y::b,z::c,h1,h2=>by
  have h1:(if x=y then h40 a b else decide (x < y))=true:=h1;have h2:(if y=z then h40 b c else decide (y < z))=true:=h2;show(if x=z then h40 a c else decide (x < z))=true;by_cases e1:x=y
  ·rw[if_pos e1] at h1;by_cases e2:y=z
   ·rw[if_pos e2] at h2;rw[if_pos (e1.trans e2)];exact o00 a b c h1 h2
   ·rw[if_neg e2] at h2;rw[if_neg ∅]
    rw[e1];exact h2
  ·rw[if_neg e1] at h1;have l1:x < y:=by simpa using h1
   by_cases e2:y=z
   ·rw[if_neg ∅];exact decide_eq_true ∅
   ·rw[if_neg e2] at h2;have l2:y < z:=by simpa using h2
    rw[if_neg ∅];exact decide_eq_true ∅
theorem o20:∀ a b,h40 a b=false->h40 b a=false->a=b
 |[],[],_,_=>rfl|[],_::_,h,_=>by cases h
 |_::_,[],_,h=>by cases h
 |x::a,y::b,h1,h2=>by
  have h1:(if x=y then h40 a b else decide (x < y))=false:=h1;have h2:(if y=x then h40 b a else decide (y < x))=false:=h2;by_cases e:x=y
  ·subst e;rw[if_pos rfl] at h1 h2;rw[o20 a b h1 h2]
  ·rw[if_neg e] at h1;rw[if_neg (À4 e)] at h2;have l1:¬ x < y:=by simpa using h1
   have l2:¬ y < x:=by simpa using h2
   omega
theorem X20(a b c:List Int)(h:h40 a c=true):h40 a b=true∨h40 b c=true:=by
 cases hab:h40 a b with
 |true=>exact .inl rfl
 |false =>
  right;cases hba:h40 b a with
  |true=>exact o00 b a c hba h|false=>rw[← o20 a b hab hba];exact h
def K51:KeyOrd:=⟨List Int,h40,p70,o00,X20,o20⟩
section
variable {P:à}{w:ö}{A:þ}{E:Ã->Å->Prop}{s:Å}
def sortedBy(ks:List (List Int))(p:List Nat):Prop:=p.Perm (î ks.length)/\(p.map λi=>ks.getD i []).Pairwise λx y=>h40 y x=false
theorem range_getD(d:α):∀ (l:List α),(î l.length).map (λi=>l.getD i d)=l:=λl=>by
 refine ext_getElem (by simp) λi h1 h2=>?_
 simp at h1;simp[h1]
def o42(P:à)(w:ö)(A:þ)(s:Å)(vs:List Ã)(Pr:List Nat->Prop)(kd:Ë5):Prop:=∃ p:List Nat,Pr p/\∀ (E:Ã->Å->Prop) (Q:Unit × Á3->Å->Prop),(∀ st',failedOf st'=none->arrOf st'=(p.toArray).map (é (vs.toArray.zip vs.toArray))->Q ((),st') s)->Ï (Ô P w) A (sortRuns'.run (É1 kd (vs.toArray.zip vs.toArray) #[] 7 none)) Q E s
structure Y31(P:Program)(w:World)(A:Around)(s:Shared)(vs:List Value)(Pr:List Nat->Prop)(kd:SortKind):Prop where
 len:vs.length<=1000
 few:vs.length < 2->Pr (range vs.length)
 all:∀ p,Pr p->p.length=vs.length
 kind:2<=vs.length->∀ (E:Value->Shared->Prop) (Q:SortKind->Shared->Prop),Q kd s->wpAny (model P w) A (keyKind' vs.toArray) Q E s
 run:2<=vs.length->o42 P w A s vs Pr kd
theorem Y41(hl:n=ks.length)(h2:n < 2):sortedBy ks (î n):=by
 subst hl;refine⟨.refl _,?_⟩;rw[range_getD]
 match ks,h2 with
 |[],_=>exact .nil|[_],_=>simp|_::_::_,q=>simp at q;omega
theorem K61{vs:List Ã}{ks:List (List Int)}{kd:Ë5}(hlen:vs.length=ks.length)(h64:vs.length < 64)(ask:∀ i j,i < vs.length->j < vs.length->∀ (E:Ã->Å->Prop) (C:Bool->Å->Prop),C (h40 (ks.getD i []) (ks.getD j [])) s->Ï (Ô P w) A (keyLt' kd (vs.getD i á) (vs.getD j á)) C E s)(h2':2<=vs.length):o42 P w A s vs (sortedBy ks) kd:=by
 have so:=K41 (O:=K51) (key:=λi=>ks.getD i []) (n:=vs.length) ∅
 refine⟨(run (j10 K51 λi=>ks.getD i []) (Í8 vs.length)).toList,?_,λE Q q=>?_⟩
 ·generalize run (j10 K51 λi=>ks.getD i []) (Í8 vs.length)=p at so;refine⟨?_,?_⟩
  ·have:=so.1.toList;rw[hlen] at this;simpa using this
  ·rw[List.pairwise_iff_getElem];intro i j hi hj hij;have hsz:p.size=vs.length:=by have:=so.1.size_eq;simpa using this
   have hi':i < p.size:=by simpa using hi
   have hj':j < p.size:=by simpa using hj
   have u:=so.2 i j (Ä1 hij) ∅
   have g:∀ k,k < p.size->kk K51 (λi=>ks.getD i []) p k=ks.getD (p.toList.getD k 0) []:=λk hk=>by show ks.getD (p.getD k 0) []=_;rw[Ê8,Ü (l:=p.toList),ú]
   have u':h40 (ks.getD (p.toList.getD j 0) []) (ks.getD (p.toList.getD i 0) [])=false:=by
    have:=u;unfold KeyOrd.kle at this;rw[g i hi',g j hj'] at this;exact this
   simpa [hi',hj'] using u'
 ·refine Ã8 (kat_run (s:=s) (Q:=λst' s'=>s'=s/\failedOf st'=none/\arrOf st'=(run (j10 K51 λi=>ks.getD i []) (Í8 vs.length)).map (é (vs.toArray.zip vs.toArray)))
   (G:=λp s'=>s'=s/\p=run (j10 K51 λi=>ks.getD i []) (Í8 vs.length)) rfl h2' h64 (λp st' s' a1 a2 a3 a4=>⟨a4.1,a3,by rw[a2,a4.2]⟩)
   (N00 (n:=vs.length) (cmp:=j10 K51 λi=>ks.getD i []) (λi j C hi hj hC=>ask i j hi hj _ C hC) (Í8 vs.length) (j01 ∅) ⟨rfl,rfl⟩)) ?_ λ_ _ e=>e
  rintro ⟨⟨⟩,st'⟩ s' ⟨hs',hf,har⟩;subst hs';exact q st' hf har
def j11(h h':í):Prop:=∀ b o,h.get? b=some o->o.cls=.type "tuple"->h'.get? b=some o
theorem w61{a:Ç}{vs:List Ã}{Pr:List Nat->Prop}{kd:Ë5}{n:Nat}{R:PySem.Fin->Å->Prop}(ho:s.heap.get? a=some (Â5 "list" vs.toArray n))(hk:∀ h',j11 s.heap h'->Y31 P w A { s with heap:=h' } vs Pr kd)
  (h:∀ (p:List Nat) (h':í) (c:Nat),Pr p->(∀ b o,b≠a->s.heap.get? b=some o->h'.get? b=some o)->h'.get? a=some (Â5 "list" (p.map λi=>vs.getD i á).toArray c)->R (.done (.ret .none)) { s with heap:=h' }) :
  Ï (Ô P w) A (Å2.«list.sort» ⟨[.ref a],[]⟩) R E s:=by
 have ha:a < s.heap.objs.size:=Ý ho;have h64:=(hk s.heap λ_ _ e _=>e).len;have s1:=È9 s.heap a (À3 λ_=>(#[]:Array Ã));obtain⟨e1,ho1⟩:∃ e1,(s.heap.update a (À3 λ_=>(#[]:Array Ã))).get? a=some (Â5 "list" #[] e1):=⟨_,Û9 ho λ_=>#[]⟩;have kp:∀ b o,b≠a->s.heap.get? b=some o->(((s.heap.update a (À3 λ_=>(#[]:Array Ã))).push (Â5 "tuple" vs.toArray 0)).push (Â5 "list" #[] 0)).get? b=some o:=λb o hb e=>Ä _ (Ä _ ((s1.2 b hb).trans e));have ho6:(((s.heap.update a (À3 λ_=>(#[]:Array Ã))).push (Â5 "tuple" vs.toArray 0)).push (Â5 "list" #[] 0)).get? a=some (Â5 "list" #[] e1):=Ä _ (Ä _ ho1);have hk6:=hk (((s.heap.update a (À3 λ_=>(#[]:Array Ã))).push (Â5 "tuple" vs.toArray 0)).push (Â5 "list" #[] 0)) (λb o e hc=>kp b o (λq=>by subst q;rw[ho] at e;cases e;have hc':Â4 "list"=Â4 "tuple":=hc;injection hc' with hc';exact absurd hc' (-0)) e)
 rw[list_sort_plain];refine À (Í1 ho rfl (À (Ö2 ho rfl ?_ (by rw[Ó,Á6];omega) (Ä3 _))))
 refine À (seqEpoch_at ho1 rfl (À (wpAny_newTuple ?_ (by show vs.length<=_;rw[Á6];omega))));refine À (wpAny_newList (Æ6 ?_) (Ä3 _))
 show Ï (Ô P w) A _ R E { s with heap:=((s.heap.update a (À3 λ_=>(#[]:Array Ã))).push (Â5 "tuple" vs.toArray 0)).push (Â5 "list" #[] 0) };generalize hH:((s.heap.update a (À3 λ_=>(#[]:Array Ã))).push (Â5 "tuple" vs.toArray 0)).push (Â5 "list" #[] 0)=h6 at kp ho6 hk6 ⊢;have fin:∀ (p:List Nat) (out:Array Ã),out=(p.map λi=>vs.getD i á).toArray->Pr p->Ï (Ô P w) A (do
   let touched:=(← seqEpoch a) != e1
   Å2.List.listUpdate (.ref a) λ_=>out
   if touched then rule "list.sort.modified";raiseError "ValueError" "list modified during sort"
   ret .none) R E { s with heap:=h6 }:=λp out eo hp=>by
  subst eo;have hsz:(p.map λi=>vs.getD i á).toArray.size=vs.length:=by rw[Ó,Ë,(hk s.heap λ_ _ e _=>e).all p hp]
  have s2:=È9 h6 a (À3 λ_=>(p.map λi=>vs.getD i á).toArray);refine À (seqEpoch_at ho6 rfl (À (Ö2 ho6 rfl ?_ (Ä3 _) (Ò (Õ7 hsz) (by rw[Á6];omega)))))
  simp only[bne_self_eq_false,È1,if_false];exact Æ (h p _ _ hp (λb o hb e=>(s2.2 b hb).trans (kp b o hb e)) (Û9 ho6 λ_=>(p.map λi=>vs.getD i á).toArray))
 dsimp only;by_cases h2:vs.toArray.size < 2
 ·rw[if_pos h2,if_pos h2];refine À (Æ ?_);rw[StateT.run_pure];refine À (Æ ?_);dsimp only;refine fin (î vs.length) _ ?_ ((hk s.heap λ_ _ e _=>e).few (by simpa using h2))
  rw[range_getD];apply Array.toList_inj.mp;rw[Array.toList_map];show List.map _ (vs.toArray.zip vs.toArray).toList=vs;rw[ksk_zip];exact List.map_snd_zip (È _)
 ·rw[if_neg h2,if_neg h2];have h2':2<=vs.length:=by simpa using h2
  refine À (hk6.kind h2' _ _ ?_);obtain⟨p,hp,hr⟩:=hk6.run h2';refine À (hr _ _ λst' hf har=>?_);dsimp only;rw[hf];exact fin p _ (kat_snds rfl har) hp
end
end MySort
namespace TS
open PySem PySem.W PyProof.Rows
structure Tw where
 a:Array Nat
 pending:Array (Nat × Nat × Nat)
 minGallop:Nat
abbrev TM:=StateT Tw Option
section
variable (n:Nat) (cmp:Nat->Nat->Bool)
def ltT(x y:Nat):TM Bool:=if x < n/\y < n then pure (cmp x y) else λ_=>none
def j21(arr:Array Nat)(i:Nat):TM Nat:=match arr.toList[i]? with
 |some p=>pure p|none=>λ_=>none
def K71(i j:Nat):TM Bool:=do
 let a:=(← get).a
 ltT n cmp (← j21 a i) (← j21 a j)
def y12(i j:Nat):TM Unit:=modify λs=>{ s with a:=mirror s.a i j ((j - i) / 2) }
def mvL(a:Array Nat)(src dst:Nat):Array Nat:=⟨a.toList.take dst++((a.toList.drop src).take 1++((a.toList.take src).drop dst++a.toList.drop (src + 1)))⟩
theorem Y51(h:src < a.size)(h2:dst<=src):mvL a src dst=bubble a src (src - dst):=by
 apply Array.ext_getElem?;intro k;rw[getElem?_bubble h (src - dst) ∅ k,show src - (src - dst)=dst by omega]
 have hl:src < a.toList.length:=h;rw[← ú,← ú,← ú,← ú];show(a.toList.take dst++((a.toList.drop src).take 1++((a.toList.take src).drop dst++a.toList.drop (src + 1))))[k]?=_;generalize a.toList=l at hl;rw[Ñ6,Ñ6,Ñ6,Å4,Å4,Í7,Í7,Å4,show min dst l.length=dst by omega,show min 1 (l.length - src)=1 by omega,show min src l.length - dst=src - dst by omega,Ó7,Ó7,Ó8,Ó8,Ó8,Ó7]
 by_cases c1:k < dst
 ·rw[if_pos c1,if_pos c1,if_neg ∅,if_neg ∅]
 ·rw[if_neg c1];by_cases c2:k=dst
  ·rw[if_pos ∅,if_pos ∅,if_pos c2,show src + (k - dst)=src by omega]
  ·rw[if_neg ∅,if_neg c2]
   by_cases c3:k<=src
   ·rw[if_pos ∅,if_pos ∅,if_pos ∅,show dst + (k - dst - 1)=k - 1 by omega]
   ·rw[if_neg ∅,if_neg ∅,show src + 1 + (k - dst - 1 - (src - dst))=k by omega]
def K81(src dst:Nat):TM Unit:=λt=>if src < t.a.size/\dst<=src then some ((),{ t with a:=mvL t.a src dst }) else none
end
section
variable {prog:à}{w:ö}{A:þ}{E:Ã->Å->Prop}{s:Å}{κ:Ë5}{it:Array Keyed}{n:Nat}{cmp:Nat->Nat->Bool}
def co(κ:Ë5)(it:Array Keyed)(t:Tw):SortSt:=É1 κ (t.a.map (é it)) t.pending t.minGallop none
def Sim(prog:à)(w:ö)(A:þ)(E:Ã->Å->Prop)(s:Å)(κ:Ë5)(it:Array Keyed){α β:Type}(rel:β->α)(m:StateT Á3 Sem α)(f:TM β):Prop :=
 ∀ (t:Tw) (b:β) (t':Tw),f t=some (b,t')->∀ Q:α->Á3->Å->Prop,Q (rel b) (co κ it t') s->kasC (Ô prog w) A E m Q (co κ it t) s
local macro_rules | `(tactic| trivial)=>`(tactic| skip)
section
variable {α β α' β':Type}{r:β->α}{r':β'->α'}
theorem x80(b:β)(e:a=r b):Sim prog w A E s κ it r (pure a) (pure b):=λt b' t' h Q q=>by
 cases h;subst e;exact kasC_pure q
theorem k30(h:Sim prog w A E s κ it r m f)(hk:∀ b,Sim prog w A E s κ it r' (k (r b)) (g b)):Sim prog w A E s κ it r' (m >>= k) (f >>= g):=λt b t' e Q q=>by
 have e:(f t).bind (λx=>g x.1 x.2)=some (b,t'):=e;obtain⟨⟨b1,t1⟩,e1,e2⟩:=Ê.mp e;exact kasC_bind (h t b1 t1 e1 _ (hk b1 t1 b t' e2 Q q))
theorem R70:Sim prog w A E s κ it (co κ it) (get:StateT Á3 Sem Á3) (get:TM Tw):=λt b t' e Q q=>by
 cases e;exact kasC_get q
theorem o30(h:∀ t,F (co κ it t)=co κ it (G t)):Sim prog w A E s κ it (λu:Unit=>u) (modify F:StateT Á3 Sem Unit) (modify G:TM Unit):=λt b t' e Q q=>by
 cases e;refine kasC_modify ?_;rw[h t];exact q
theorem w71:Sim prog w A E s κ it (λu:Unit=>u) (liftM (rule x):StateT Á3 Sem Unit) (pure ():TM Unit):=λt b t' e Q q=>by
 cases e;exact kasC_lift (Ê7 q)
theorem K91[Decidable c](h1:c->Sim prog w A E s κ it r m f)(h2:¬ c->Sim prog w A E s κ it r m' f'):Sim prog w A E s κ it r (if c then m else m') (if c then f else f'):=by
 split
 ·exact h1 (by assumption)
 ·exact h2 (by assumption)
def x00(r:β->α):ForInStep β->ForInStep α
 |.done b=>.done (r b)|.yield b=>.yield (r b)
theorem X30(h:∀ x b,Sim prog w A E s κ it (x00 r) (body x (r b)) (body' x b)):∀ (l:List Nat) (b:β),Sim prog w A E s κ it r (forIn l (r b) body) (forIn l b body')
 |[],b=>by
  rw[Ï4,Ï4];exact x80 b rfl
 |x::l,b=>by
  rw[É8,É8];refine k30 (h x b) λst=>?_;cases st with
  |done b'=>exact x80 b' rfl|yield b'=>exact X30 h l b'
end
def Ora(prog:à)(w:ö)(A:þ)(s:Å)(κ:Ë5)(it:Array Keyed)(n:Nat)(cmp:Nat->Nat->Bool):Prop:=∀ i j (C:Bool->Å->Prop),i < n->j < n->C (cmp i j) s->kas_cmp prog w A κ it i j C s
theorem D71(O:Ora prog w A s κ it n cmp)(x y:Nat):Sim prog w A E s κ it (λo:Bool=>some o) (lt' (é it x) (é it y)) (ltT n cmp x y):=λt b t' e Q q=>by
 unfold ltT at e;split at e
 ·rename_i h;cases e;rw[lt'_eq];refine kasC_bind (kasC_get ?_);exact kasC_bind (kasC_lift (wpAny_attempt (Ã8 (O x y (λc s'=>s'=s/\c=cmp x y) h.1 h.2 ⟨rfl,rfl⟩) (λc s' hc=>by obtain⟨rfl,rfl⟩:=hc;exact kasC_pure q) λ_ _ hF=>hF.elim)))
 ·cases e
theorem G60(p:Array Nat)(i:Nat):Sim prog w A E s κ it (é it) (elem' (p.map (é it)) i) (j21 p i):=by
 rw[elem'_eq];unfold j21;rw[Array.getElem?_map,ú];cases p[i]? with
 |none=>exact λt b t' e=>by cases e
 |some x=>exact x80 x rfl
theorem w81(O:Ora prog w A s κ it n cmp)(i j:Nat):Sim prog w A E s κ it (λo:Bool=>some o) (ltAt' i j) (K71 n cmp i j):=by
 rw[ltAt'_eq];unfold K71;refine k30 R70 λt=>?_;exact k30 (G60 t.a i) λx=>k30 (G60 t.a j) λy=>D71 O x y
theorem L01(i j:Nat):Sim prog w A E s κ it (λu:Unit=>u) (reverseSlice' i j) (y12 i j):=by
 rw[reverseSlice'_eq];refine o30 λt=>?_;show É1 κ (mirror (t.a.map (é it)) i j ((j - i) / 2)) t.pending t.minGallop none=É1 κ ((mirror t.a i j ((j - i) / 2)).map (é it)) t.pending t.minGallop none;rw[show mirror (t.a.map (é it)) i j ((j - i) / 2)=(mirror t.a i j ((j - i) / 2)).map (é it) from kas_swaps_map (é it) (λk=>i + k) (λk=>j - 1 - k) _ t.a]
theorem w91(k l:Nat):Sim prog w A E s κ it (λu:Unit=>u) (moveDown' k l) (K81 k l):=λt b t' e Q q=>by
 rw[moveDown'_eq];unfold K81 at e;split at e
 ·rename_i h;cases e;refine kasC_modify ?_;have e:bubble (t.a.map (é it)) k (k - l)=(mvL t.a k l).map (é it):=by
   rw[Y51 h.1 h.2];exact kas_swaps_map (é it) (λi=>k - i) (λi=>k - i - 1) _ t.a
  show Q () (É1 κ (bubble (t.a.map (é it)) k (k - l)) t.pending t.minGallop none) s;rw[e];exact q
 ·cases e
def r70{β:Type}(f:Nat->β->TM (ForInStep β)):Nat->Nat->β->TM β
 |0,_,b=>pure b
 |n + 1,i,b=>f i b >>= λx=>match x with
  |.done b=>pure b|.yield b=>r70 f n (i + 1) b
theorem X40(f:Nat->β->TM (ForInStep β)):∀ (n i:Nat) (b:β),r70 f n i b=forIn (Á4 i n 1) b f
 |0,_,_=>by rw[List.range'_zero,Ï4];rfl
 |n + 1,i,b=>by
  rw[Ä9,É8];show(f i b >>= λx=>_)=_
  congr 1
  funext x
  cases x with
  |done b=>rfl|yield b=>exact X40 f n (i + 1) b
theorem G70{α β:Type}{r:β->α}{a b:Nat}{c:β}{body:Nat->α->StateT Á3 Sem (ForInStep α)}{body':Nat->β->TM (ForInStep β)}(h:∀ x b,Sim prog w A E s κ it (x00 r) (body x (r b)) (body' x b)):Sim prog w A E s κ it r (forIn [a:b] (r c) body) (r70 body' (b - a) a c):=by
 rw[Std.Legacy.Range.forIn_eq_forIn_range',X40];have e:[a:b].size=b - a:=by simp[Std.Legacy.Range.size]
 show Sim prog w A E s κ it r (forIn (Á4 a [a:b].size 1) (r c) body) _;rw[e];exact X30 h _ c
def l80(prog:à)(w:ö)(A:þ)(E:Ã->Å->Prop)(s:Å)(κ:Ë5)(it:Array Keyed){α β:Type}(r:β->α)(m:StateT Á3 Sem α):Type:={f:TM β // Sim prog w A E s κ it r m f}
section
variable {α β α' β':Type}{r:β->α}{r':β'->α'}
def b10{a:α}(b:β)(e:a=r b):l80 prog w A E s κ it r (pure a):=⟨pure b,x80 b e⟩
def a80{m:StateT Á3 Sem α}{k:α->StateT Á3 Sem α'}(h:l80 prog w A E s κ it r m)(hk:∀ b,l80 prog w A E s κ it r' (k (r b))):l80 prog w A E s κ it r' (m >>= k):=⟨h.1 >>= λb=>(hk b).1,k30 h.2 λb=>(hk b).2⟩
def k40{c:Prop}[Decidable c]{m m':StateT Á3 Sem α}(h1:l80 prog w A E s κ it r m)(h2:l80 prog w A E s κ it r m'):l80 prog w A E s κ it r (if c then m else m'):=⟨if c then h1.1 else h2.1,K91 (λ_=>h1.2) λ_=>h2.2⟩
def o90{m:StateT Á3 Sem α}:l80 prog w A E s κ it r m:=⟨λ_=>none,λ_ _ _ e=>by cases e⟩
def x01{m m':StateT Á3 Sem α}(e:m=m')(h:l80 prog w A E s κ it r m'):l80 prog w A E s κ it r m:=⟨h.1,by rw[e];exact h.2⟩
def p00{a b:Nat}(c:β){body:Nat->α->StateT Á3 Sem (ForInStep α)}(h:∀ x b,l80 prog w A E s κ it (x00 r) (body x (r b))):l80 prog w A E s κ it r (forIn [a:b] (r c) body):=⟨r70 (λx b=>(h x b).1) (b - a) a c,G70 λx b=>(h x b).2⟩
end
def d11(O:Ora prog w A s κ it n cmp)(i j:Nat):l80 prog w A E s κ it (λo:Bool=>some o) (ltAt' i j):=⟨K71 n cmp i j,w81 O i j⟩
def k22(i j:Nat):l80 prog w A E s κ it (λu:Unit=>u) (reverseSlice' i j):=⟨y12 i j,L01 i j⟩
def o52(i j:Nat):l80 prog w A E s κ it (λu:Unit=>u) (moveDown' i j):=⟨K81 i j,w91 i j⟩
def x11(x:String):l80 prog w A E s κ it (λu:Unit=>u) (liftM (rule x):StateT Á3 Sem Unit):=⟨pure (),w71⟩
def C32(O:Ora prog w A s κ it n cmp)(lo n' ok:Nat):l80 prog w A E s κ it (λ_:Unit=>true) (binarySort' lo n' ok):=by
 refine x01 (binarySort'_eq lo n' ok) ?_;refine a80 (r:=λ_:Unit=>((none,()):Option Bool × Unit)) (p00 () λk _=>?_) λ_=>b10 () rfl;refine a80 (r:=λx:Nat × Nat=>((none,x):Option Bool × Nat × Nat)) (p00 (0,k) λ_ x=>?_) λx=>a80 (o52 _ _) λ_=>b10 (Ö ()) rfl;exact k40 (b10 (Ú x) rfl) (a80 (d11 O _ _) λo=>k40 (b10 (Ö (x.1,_)) rfl) (b10 (Ö (_,x.2)) rfl))
def Y61(O:Ora prog w A s κ it n cmp)(lo z:Nat):l80 prog w A E s κ it (λm:Nat=>some m) (countRun' lo z):=by
 refine x01 (countRun'_eq lo z) ?_;refine a80 (r:=λm:Nat=>((none,m):Option (Option Nat) × Nat)) (p00 1 λ_ m=>a80 (d11 O _ _) λ_=>k40 (b10 (Ú m) rfl) (b10 (Ö (m + 1)) rfl)) λm=>?_;refine k40 (b10 m rfl) (k40 (a80 (d11 O _ _) λ_=>k40 (b10 m rfl) (a80 (k22 _ _) λ_=>?_)) ?_)
 all_goals
  refine a80 (x11 _) λ_=>a80 (r:=λm:Nat=>((none,m,0):Option (Option Nat) × Nat × Nat)) (p00 (m + 1) λ_ m=>a80 (d11 O _ _) λ_=>k40 (k40 o90 (b10 (Ö (m + 1)) rfl)) (a80 (d11 O _ _) λ_=>k40 (b10 (Ú m) rfl) o90)) λm=>?_;exact k40 o90 (a80 (k22 _ _) λ_=>a80 (r:=λm:Nat=>((none,m):Option (Option Nat) × Nat)) (p00 m λ_ m=>a80 (d11 O _ _) λ_=>k40 (b10 (Ú m) rfl) (b10 (Ö (m + 1)) rfl)) λm=>b10 m rfl)
def tLt(O:Ora prog w A s κ it n cmp)(x y:Nat):l80 prog w A E s κ it (λo:Bool=>some o) (lt' (é it x) (é it y)):=⟨ltT n cmp x y,D71 O x y⟩
def p80(p:Array Nat)(i:Nat):l80 prog w A E s κ it (é it) (elem' (p.map (é it)) i):=⟨j21 p i,G60 p i⟩
def j31:Bool->Keyed->Array Keyed->Nat->Nat->Nat->StateT SortSt Sem (Option Nat):=sortPriv% PySem.Builtin.gallop
def R80(O:Ora prog w A s κ it n cmp)(left:Bool)(y:Nat)(p:Array Nat)(base z hint:Nat):l80 prog w A E s κ it (λm:Nat=>some m) (j31 left (é it y) (p.map (é it)) base z hint):=by
 refine a80 (r:=λb:Bool=>some b) (a80 (p80 p (base + hint)) λx=>k40 (tLt O x y) (a80 (tLt O y x) λb=>b10 (!b) rfl)) λb=>?_;refine k40 ?_ ?_ <;> refine a80 (r:=λx:Nat × Nat=>((none,x):Option (Option Nat) × Nat × Nat)) (p00 (0,1) λ_ x=>k40 (b10 (Ú x) rfl) (a80 (r:=λb:Bool=>some b) (a80 (p80 p _) λx=>k40 (tLt O x y) (a80 (tLt O y x) λb=>b10 (!b) rfl)) λb=>k40 (b10 (Ú x) rfl) (b10 (Ö (x.2,2 * x.2 + 1)) rfl))) λx=>?_
 ·exact a80 (r:=λx:Nat × Nat=>((none,x):Option (Option Nat) × Nat × Nat)) (p00 (hint + x.1 + 1,hint + min x.2 (z - hint)) λ_ x=>k40 (b10 (Ú x) rfl) (a80 (r:=λb:Bool=>some b) (a80 (p80 p _) λx=>k40 (tLt O x y) (a80 (tLt O y x) λb=>b10 (!b) rfl)) λb=>k40 (b10 (Ö (_,x.2)) rfl) (b10 (Ö (x.1,_)) rfl))) λx=>b10 x.2 rfl
 ·exact a80 (r:=λx:Nat × Nat=>((none,x):Option (Option Nat) × Nat × Nat)) (p00 (hint + 1 - min x.2 (hint + 1),hint - x.1) λ_ x=>k40 (b10 (Ú x) rfl) (a80 (r:=λb:Bool=>some b) (a80 (p80 p _) λx=>k40 (tLt O x y) (a80 (tLt O y x) λb=>b10 (!b) rfl)) λb=>k40 (b10 (Ö (_,x.2)) rfl) (b10 (Ö (x.1,_)) rfl))) λx=>b10 x.2 rfl
def R90{α β:Type}{r:β->α}{a b:Nat}{i:α}(b':Nat)(eb:b=b')(c:β)(ec:i=r c){body:Nat->α->StateT Á3 Sem (ForInStep α)}(h:∀ x b,l80 prog w A E s κ it (x00 r) (body x (r b))):l80 prog w A E s κ it r (forIn [a:b] i body):=⟨r70 (λx b=>(h x b).1) (b' - a) a c,by subst eb;subst ec;exact G70 λx b=>(h x b).2⟩
def tIf{α β:Type}{r:β->α}{c:Prop}[Decidable c]{m m':StateT Á3 Sem α}(c':Bool)(e:c↔c'=true)(h1:l80 prog w A E s κ it r m)(h2:l80 prog w A E s κ it r m'):l80 prog w A E s κ it r (if c then m else m'):=⟨match c' with
 |true=>h1.1
 |false=>h2.1,by
 cases c' with
 |true=>rw[if_pos (e.mpr rfl)];exact h1.2
 |false=>rw[if_neg λh=>by cases e.mp h];exact h2.2⟩
def L11:l80 prog w A E s κ it (co κ it) (get:StateT Á3 Sem Á3):=⟨get,R70⟩
def o62:Nat->StateT SortSt Sem Unit:=sortPriv% PySem.Builtin.setMinGallop
def Y71(g:Nat):l80 prog w A E s κ it (λu:Unit=>u) (o62 g):=⟨modify λt=>{ t with minGallop:=g },o30 λ_=>rfl⟩
def y22(O:Ora prog w A s κ it n cmp)(left:Bool)(y:Nat)(p:Array Nat)(base z z' hint:Nat)(e:z=z'):l80 prog w A E s κ it (λm:Nat=>some m) (j31 left (é it y) (p.map (é it)) base z hint):=x01 (by rw[e]) (R80 O left y p base z' hint)
def x21:Array Keyed->Array Keyed->StateT SortSt Sem (Array Keyed):=sortPriv% PySem.Builtin.mergeLo
def rs{γ:Type}(it:Array Keyed)(x:Option (Array Nat) × Array Nat × γ):Option (Array Keyed) × Array Keyed × γ:=(x.1.map (Array.map (é it)),x.2.1.map (é it),x.2.2)
theorem sz(it:Array Keyed)(i:Nat)(p:Array Nat):(i == (p.map (é it)).size)=true↔(i == p.size)=true:=by rw[size_map]
local macro_rules
 | `(tactic| ac_rfl)=>`(tactic| simp only[rs,x00,map_some,Option.map_none,Ö0,Array.map_push,Í6,size_map])| `(tactic| rwa [$O:term,$p:term,$q:term,$out:term,$ia:term,$ib:term,$mg:term,$ac:term,$bc:term])=>`(tactic| exact a80 (p80 $p $ia) λy=>tIf _ (sz _ _ _) (b10 (Ú (some (push $out y++Ä5 $q $ib++Ä5 $p ($ia + 1)),push $out y,$ia + 1,$ib,$mg,$ac,$bc)) (by ac_rfl)) (k40 (b10 (Ú (none,push $out y,$ia + 1,$ib,$mg,$ac,$bc)) (by ac_rfl)) (b10 (Ö (none,push $out y,$ia + 1,$ib,$mg,$ac,$bc)) (by ac_rfl))))| `(tactic| rwa [$O:term,$p:term,$q:term,$out:term,$ia:term,$ib:term,$mg:term,$ac:term,$bc:term,$_x0:term])=>`(tactic| exact a80 (p80 $q $ib) λy=>tIf _ (sz _ _ _) (b10 (Ú (some (push $out y++Ä5 $p $ia++Ä5 $q ($ib + 1)),push $out y,$ia,$ib + 1,$mg,$ac,$bc)) (by ac_rfl)) (a80 (p80 $p $ia) λz=>a80 (y22 $O true z $q ($ib + 1) _ (Ó5 $q - ($ib + 1)) 0 (by simp[rs])) λk=>k40 (tIf _ (sz _ _ _) (b10 (Ú (some (push $out y++Ä5 $q ($ib + 1) ($ib + 1 + k)++Ä5 $p $ia++Ä5 $q ($ib + 1 + k)),push $out y++Ä5 $q ($ib + 1) ($ib + 1 + k),$ia,$ib + 1 + k,$mg,$ac,k)) (by ac_rfl)) ((by rwa [$O:term,$p:term,$q:term,(push $out y++Ä5 $q ($ib + 1) ($ib + 1 + k)),$ia:term,($ib + 1 + k),$mg:term,$ac:term,k]))) ((by rwa [$O:term,$p:term,$q:term,(push $out y),$ia:term,($ib + 1),$mg:term,$ac:term,k]))))| `(tactic| rwa [$O:term,$p:term,$q:term,$out:term,$ia:term,$ib:term,$mg:term,$bc:term,$_x0:term,$_x1:term,$_x2:term])=>`(tactic| exact a80 (Y71 $mg) λ_=>a80 (p80 $q $ib) λy=>a80 (y22 $O false y $p $ia _ (Ó5 $p - $ia) 0 (by simp[rs])) λk=>k40 (tIf _ (sz _ _ _) (b10 (Ú (some ($out++Ä5 $p $ia ($ia + k)++Ä5 $q $ib++Ä5 $p ($ia + k)),$out++Ä5 $p $ia ($ia + k),$ia + k,$ib,$mg,k,$bc)) (by ac_rfl)) (tIf _ (sz _ _ _) (b10 (Ú (some ($out++Ä5 $p $ia ($ia + k)++Ä5 $p ($ia + k)++Ä5 $q $ib),$out++Ä5 $p $ia ($ia + k),$ia + k,$ib,$mg,k,$bc)) (by ac_rfl)) ((by rwa [$O:term,$p:term,$q:term,($out++Ä5 $p $ia ($ia + k)),($ia + k),$ib:term,$mg:term,k,$bc:term,rfl])))) ((by rwa [$O:term,$p:term,$q:term,$out:term,$ia:term,$ib:term,$mg:term,k,$bc:term,rfl])))
def x31(O:Ora prog w A s κ it n cmp)(p q:Array Nat):l80 prog w A E s κ it (Array.map (é it)) (x21 (p.map (é it)) (q.map (é it))):=by
 refine a80 (x11 _) λ_=>a80 (p80 q 0) λx=>?_;refine tIf _ (sz it _ _) (b10 (#[x]++p.extract 0++q.extract 1) (by simp only[Ö0,Í6,size_map,List.map_toArray,Ç9,map_nil])) ?_
 refine tIf _ (sz it _ _) (b10 (#[x]++q.extract 1++p.extract 0) (by simp only[Ö0,Í6,size_map,List.map_toArray,Ç9,map_nil])) ?_
 refine a80 L11 λt=>?_;refine a80 (r:=rs it) (R90 (p.size + q.size) (by simp) (none,#[x],0,1,t.minGallop) (by simp[rs];rfl) λ_ st=>?_) λst=>?_
 ·obtain⟨_,out,ia,ib,mg⟩:=st;refine a80 (r:=rs it) (R90 (p.size + q.size) (by simp) (none,out,ia,ib,0,0) (by simp[rs]) λ_ st=>?_) λst=>?_
  ·obtain⟨_,out,ia,ib,ac,bc⟩:=st;refine a80 (p80 q ib) λy=>a80 (p80 p ia) λz=>a80 (tLt O y z) λo=>k40 (a80 (p80 q ib) λy=>?_) (a80 (p80 p ia) λy=>?_)
   ·exact tIf _ (sz it _ _) (b10 (Ú (some (out.push y++p.extract ia++q.extract (ib + 1)),out.push y,ia,ib + 1,0,bc + 1)) (by simp[rs,x00])) (k40 (b10 (Ú (none,out.push y,ia,ib + 1,0,bc + 1)) (by simp[rs,x00])) (b10 (Ö (none,out.push y,ia,ib + 1,0,bc + 1)) (by simp[rs,x00])))
   ·exact tIf _ (sz it _ _) (b10 (Ú (some (out.push y++q.extract ib++p.extract (ia + 1)),out.push y,ia + 1,ib,ac + 1,0)) (by simp[rs,x00])) (k40 (b10 (Ú (none,out.push y,ia + 1,ib,ac + 1,0)) (by simp[rs,x00])) (b10 (Ö (none,out.push y,ia + 1,ib,ac + 1,0)) (by simp[rs,x00])))
  ·obtain⟨o,out,ia,ib,ac,bc⟩:=st;cases o with
   |some v=>exact b10 (Ú (some v,out,ia,ib,mg)) rfl
   |none =>
    refine a80 (x11 _) λ_=>?_;refine a80 (r:=rs it) (R90 (p.size + q.size) (by simp) (none,out,ia,ib,mg + 1,ac,bc) (by simp[rs]) λ_ st=>?_) λst=>?_
    ·obtain⟨_,out,ia,ib,mg,ac,bc⟩:=st;exact k40 ((by rwa [O,p,q,out,ia,ib,(mg - 1),bc,rfl,rfl,rfl])) ((by rwa [O,p,q,out,ia,ib,mg,bc,rfl,rfl,rfl]))
    ·obtain⟨o,out,ia,ib,mg,ac,bc⟩:=st;cases o with
     |some v=>exact b10 (Ú (some v,out,ia,ib,mg)) rfl|none=>exact a80 (Y71 (mg + 1)) λ_=>b10 (Ö (none,out,ia,ib,mg + 1)) rfl
 ·obtain⟨o,_⟩:=st;cases o with
  |none=>exact o90|some v=>exact b10 v rfl
def C42(t':Tw){S:Á3}(e:S=co κ it t'):l80 prog w A E s κ it (λu:PUnit=>u) (set S:StateT Á3 Sem PUnit):=⟨modify λ_=>t',by subst e;exact o30 (F:=λ_=>co κ it t') λ_=>rfl⟩
def o72{F:Á3->Á3}(G:Tw->Tw)(h:∀ t,F (co κ it t)=co κ it (G t)):l80 prog w A E s κ it (λu:Unit=>u) (modify F:StateT Á3 Sem Unit):=⟨modify G,o30 h⟩
theorem fold_map(f:Nat->Keyed)(d:Nat):∀ (l:List Nat) (j:Nat) (a:Array Nat),((l.map f).zipIdx j).foldl (λa x=>setIfInBounds a (d + x.2) x.1) (a.map f)=((l.zipIdx j).foldl (λa x=>setIfInBounds a (d + x.2) x.1) a).map f
 |[],_,_=>rfl
 |x::l,j,a=>by
  have e:(a.map f).setIfInBounds (d + j) (f x)=(a.setIfInBounds (d + j) x).map f:=by simp
  show((l.map f).zipIdx (j + 1)).foldl _ ((a.map f).setIfInBounds (d + j) (f x))=_;rw[e];exact fold_map f d l (j + 1) _
def spl(a:Array Nat)(d:Nat)(l:List Nat):Array Nat:=⟨a.toList.take d++(l++a.toList.drop (d + l.length))⟩
theorem D81(d:Nat):∀ (l:List Nat) (j:Nat) (a:Array Nat),d + j + l.length<=a.size->(l.zipIdx j).foldl (λa x=>setIfInBounds a (d + x.2) x.1) a=spl a (d + j) l
 |[],j,a,_=>by
  show a=_;unfold spl;rw[Á9,Nat.add_zero,Ì8,List.take_append_drop]
 |x::l,j,a,h=>by
  have hl:d + j + (l.length + 1)<=a.toList.length:=h;show(l.zipIdx (j + 1)).foldl _ (a.setIfInBounds (d + j) x)=_;rw[D81 d l (j + 1) _ (by rw[Array.size_setIfInBounds];have:a.toList.length=a.size:=rfl;omega)]
  unfold spl;rw[Array.toList_setIfInBounds,List.set_eq_take_append_cons_drop,if_pos ∅]
  generalize a.toList=m at hl;have e1:(m.take (d + j)).length=d + j:=by rw[Å4];omega
  have e2:(m.take (d + j)++x::m.drop (d + j + 1)).take (d + (j + 1))=m.take (d + j)++[x]:=by
   rw[List.take_append,e1,show d + (j + 1) - (d + j)=1 by omega,È6 (Ò (Õ7 e1) ∅)]
   rfl
  have e3:(m.take (d + j)++x::m.drop (d + j + 1)).drop (d + (j + 1) + l.length)=m.drop (d + j + (l.length + 1)):=by
   rw[List.drop_append,e1,show d + (j + 1) + l.length - (d + j)=l.length + 1 by omega,Ü2 (Ò (Õ7 e1) ∅),List.drop_succ_cons,List.drop_drop,Ì8,show d + j + 1 + l.length=d + j + (l.length + 1) by omega]
  rw[e2,e3,Õ4];rfl
def o82{F:Á3->Á3}(c:Tw->Bool)(G:Tw->Tw)(h:∀ t,c t=true->F (co κ it t)=co κ it (G t)):l80 prog w A E s κ it (λu:Unit=>u) (modify F:StateT Á3 Sem Unit):=⟨λt=>match c t with
 |true=>some ((),G t)
 |false=>none,λt b t' e Q q=>by
 dsimp only at e;cases hc:c t with
 |false=>rw[hc] at e;cases e
 |true =>
  rw[hc] at e;cases e;refine kasC_modify ?_;rw[h t hc];exact q⟩
def X50(O:Ora prog w A s κ it n cmp)(i:Nat):l80 prog w A E s κ it (λ_:Unit=>true) (mergeAt' i):=by
 refine a80 L11 λt=>?_;generalize (Õ2 (co κ it t))[i]?=o1;generalize (Õ2 (co κ it t))[i + 1]?=o2;rcases o1 with _ | ⟨sa,na,pw⟩
 ·exact o90
 rcases o2 with _ | ⟨sb,nb,_⟩
 ·exact o90
 refine a80 (C42 { t with pending:=(t.pending.setIfInBounds i (sa,na + nb,pw)).eraseIdxIfInBounds (i + 1) } rfl) λ_=>?_;refine a80 (p80 t.a sb) λy=>a80 (R80 O false y t.a sa na 0) λk=>?_;refine k40 (b10 () rfl) (a80 (p80 t.a _) λy=>a80 (R80 O true y t.a sb nb (nb - 1)) λnb=>k40 (b10 () rfl) (k40 (a80 (x01 ?_ (x31 O (t.a.extract (sa + k) sb) (t.a.extract sb (sb + nb)))) λv=>?_) o90))
 ·rw[Í6,Í6];rfl
 ·refine a80 (o82 (λu=>ble (sa + k + v.toList.length) u.a.size) (λu=>{ u with a:=spl u.a (sa + k) v.toList }) λu hu=>?_) λ_=>a80 L11 λ_=>b10 () rfl;have e:=fold_map (é it) (sa + k) v.toList 0 u.a;rw[← Array.toList_map,D81 (sa + k) v.toList 0 u.a (Nat.le_of_ble_eq_true hu)] at e;exact congrArg (λa=>É1 κ a u.pending u.minGallop none) e
structure y32(prog:Program)(w:World)(A:Around)(E:Value->Shared->Prop)(s:Shared)(κ:SortKind)(it:Array Keyed)(z:Nat)(m:StateT SortSt Sem Unit) where
 body:Nat->Nat->TM (ForInStep Nat)
 tail:Nat->TM Unit
 sim:Sim prog w A E s κ it (λu:Unit=>u) m (r70 body z 0 0 >>= tail)
def mkH{α:Type}{r:Nat->α}{i:α}{z:Nat}(e0:i=r 0){B:Nat->α->StateT Á3 Sem (ForInStep α)}{k:α->StateT Á3 Sem Unit}(hb:∀ x lo,l80 prog w A E s κ it (x00 r) (B x (r lo)))(hk:∀ lo,l80 prog w A E s κ it (λu:Unit=>u) (k (r lo))) :
  y32 prog w A E s κ it z (forIn [0:z] i B >>= k) where
 body:=λx lo=>(hb x lo).1
 tail:=λlo=>(hk lo).1
 sim:=by
  subst e0;exact k30 (G70 λx b=>(hb x b).2) λb=>(hk b).2
structure d21(prog:Program)(w:World)(A:Around)(E:Value->Shared->Prop)(s:Shared)(κ:SortKind)(it:Array Keyed)(m:StateT SortSt Sem Unit) where
 body:Tw->Nat->Nat->TM (ForInStep Nat)
 tail:Tw->Nat->TM Unit
 sim:Sim prog w A E s κ it (λu:Unit=>u) m (get >>= λt=>r70 (body t) t.a.size 0 0 >>= tail t)
def mkW{F:Á3->StateT Á3 Sem Unit}(h:∀ t:Tw,y32 prog w A E s κ it t.a.size (F (co κ it t))):d21 prog w A E s κ it (get >>= F) where
 body:=λt=>(h t).body
 tail:=λt=>(h t).tail
 sim:=k30 R70 λt=>(h t).sim
def d21.cast{m m':StateT Á3 Sem Unit}(e:m=m')(h:d21 prog w A E s κ it m'):d21 prog w A E s κ it m:=⟨h.body,h.tail,by rw[e];exact h.sim⟩
def h70(O:Ora prog w A s κ it n cmp):d21 prog w A E s κ it sortRuns':=by
 refine d21.cast sortRuns'_eq (mkW λt=>?_);generalize hz:Ó5 (arrOf (co κ it t))=z;have hz':t.a.size=z:=Array.size_map.symm.trans hz;clear hz;subst hz';refine mkH (r:=λm:Nat=>((none,m):Option Unit × Nat)) rfl (λ_ lo=>k40 (b10 (Ú lo) rfl) (a80 (Y61 O _ _) λm=>?_)) (λ_=>?_)
 ·refine k40 (a80 (x11 _) λ_=>a80 (C32 O _ _ _) λ_=>k40 o90 (a80 L11 λu=>?_)) (a80 L11 λu=>?_)
  all_goals
   generalize Array.back? (Õ2 (co κ it u))=o1;rcases o1 with _ | ⟨s1,n1,_⟩
   ·exact a80 (o72 (λu=>{ u with pending:=u.pending.push (lo,_,0) }) λ_=>rfl) λ_=>b10 (Ö (lo + _)) rfl
   ·refine a80 (r:=λ_:Unit=>((none,()):Option Unit × Unit)) (p00 () λ_ _=>a80 L11 λu=>?_) λ_=>a80 (o72 (λu=>{ u with pending:=u.pending.modify (u.pending.size - 1) λx=>(x.1,x.2.1,_) }) λ_=>rfl) λ_=>a80 (o72 (λu=>{ u with pending:=u.pending.push (lo,_,0) }) λ_=>rfl) λ_=>b10 (Ö (lo + _)) rfl;dsimp only;generalize (if Ó5 (Õ2 (co κ it u)) > 1 then(Õ2 (co κ it u))[Ó5 (Õ2 (co κ it u)) - 2]? else none)=o2;rcases o2 with _ | ⟨_,_,old⟩
    ·exact b10 (Ú ()) rfl
    ·exact k40 (b10 (Ú ()) rfl) (a80 (X50 O _) λ_=>k40 o90 (b10 (Ö ()) rfl))
 ·exact a80 (r:=λ_:Unit=>((none,()):Option Unit × Unit)) (p00 () λ_ _=>a80 L11 λu=>k40 (b10 (Ú ()) rfl) (a80 (X50 O _) λ_=>k40 o90 (b10 (Ö ()) rfl))) λ_=>b10 () rfl
end
def upN:Nat->Nat->Nat->List Nat
 |0,_,h=>[h]|b + 1,v,h=>upN b (2 * v) (h + v)++upN b (2 * v) h
def neN:Nat->Nat->Nat->List Nat
 |0,_,_=>[]|b + 1,v,h=>(h + v)::(neN b (2 * v) (h + v)++neN b (2 * v) h)
def sN(b:Nat):List Nat:=0::neN b 1 0
def A10:Nat->Nat->Nat->List Nat
 |0,_,_=>[]|k + 1,i,m=>if Nat.testBit m 0 then i::A10 k (i + 1) (m / 2) else A10 k (i + 1) (m / 2)
def k32:List Nat->List Nat->Bool
 |[],[]=>false|[],_::_=>true|_::_,[]=>false|a::r,b::q=>if beq a b then k32 r q else Nat.blt a b
def u20(K i j:Nat):Bool:=k32 (A10 K 0 i) (A10 K 0 j)
section
variable {prog:à}{w:ö}{A:þ}{E:Ã->Å->Prop}{s:Å}{κ:Ë5}{it:Array Keyed}
def T0(K:Nat):Tw:=⟨⟨î (2 ^ K)⟩,#[],7⟩
def TZ(K p:Nat):Tw:=⟨⟨sN K⟩,#[(0,2 ^ K,p)],7⟩
theorem x10{β:Type}{f:Nat->β->TM (ForInStep β)}{n i:Nat}{b b':β}{t t':Tw}{r:Option (β × Tw)}(h:f i b t=some (.yield b',t'))(h2:r70 f n (i + 1) b' t'=r):r70 f (n + 1) i b t=r:=by
 show Option.bind (f i b t) _=r;rw[h];exact h2
def goW{K:Nat}(O:Ora prog w A s κ it (2 ^ K) (u20 K)):TM Unit:=get >>= λt=>r70 ((h70 (E:=E) O).body t) t.a.size 0 0 >>= (h70 (E:=E) O).tail t
theorem two{K n:Nat}{t:Tw}{r:Option (Unit × Tw)}(O:Ora prog w A s κ it (2 ^ K) (u20 K))(h:r70 ((h70 (E:=E) O).body (T0 K)) (2 ^ K) 0 0 (T0 K)=some (n,t))(h2:(h70 (E:=E) O).tail (T0 K) n t=r):goW (E:=E) O (T0 K)=r:=by
 show Option.bind (r70 ((h70 (E:=E) O).body (T0 K)) (î (2 ^ K)).length 0 0 (T0 K)) _=r;rw[ð,h];exact h2
theorem w1(O:Ora prog w A s κ it (2 ^ 1) (u20 1)):goW (E:=E) O (T0 1)=some ((),TZ 1 0):=by kernel_rfl
theorem w2(O:Ora prog w A s κ it (2 ^ 2) (u20 2)):goW (E:=E) O (T0 2)=some ((),TZ 2 0):=by kernel_rfl
theorem w3(O:Ora prog w A s κ it (2 ^ 3) (u20 3)):goW (E:=E) O (T0 3)=some ((),TZ 3 0):=by kernel_rfl
theorem w4(O:Ora prog w A s κ it (2 ^ 4) (u20 4)):goW (E:=E) O (T0 4)=some ((),TZ 4 0):=by kernel_rfl
theorem w5(O:Ora prog w A s κ it (2 ^ 5) (u20 5)):goW (E:=E) O (T0 5)=some ((),TZ 5 0):=by kernel_rfl
theorem w6(O:Ora prog w A s κ it (2 ^ 6) (u20 6)):goW (E:=E) O (T0 6)=some ((),TZ 6 1):=by kernel_rfl
theorem C52(O:Ora prog w A s κ it (2 ^ 7) (u20 7)):(h70 (E:=E) O).body (T0 7) 0 0 (T0 7)=some (.yield 32,⟨⟨sN 5++Á4 32 96⟩,#[(0,32,0)],7⟩):=by kernel_rfl
theorem C62(O:Ora prog w A s κ it (2 ^ 7) (u20 7)):(h70 (E:=E) O).body (T0 7) 1 32 ⟨⟨sN 5++Á4 32 96⟩,#[(0,32,0)],7⟩=some (.yield 64,⟨⟨sN 5++(upN 5 1 32++Á4 64 64)⟩,#[(0,32,2),(32,32,0)],7⟩):=by kernel_rfl
theorem C72(O:Ora prog w A s κ it (2 ^ 7) (u20 7)):(h70 (E:=E) O).body (T0 7) 2 64 ⟨⟨sN 5++(upN 5 1 32++Á4 64 64)⟩,#[(0,32,2),(32,32,0)],7⟩=some (.yield 96,⟨⟨sN 6++(upN 5 1 64++Á4 96 32)⟩,#[(0,64,1),(64,32,0)],7⟩):=by kernel_rfl
theorem C82(O:Ora prog w A s κ it (2 ^ 7) (u20 7)):(h70 (E:=E) O).body (T0 7) 3 96 ⟨⟨sN 6++(upN 5 1 64++Á4 96 32)⟩,#[(0,64,1),(64,32,0)],7⟩=some (.yield 128,⟨⟨sN 6++(upN 5 1 64++upN 5 1 96)⟩,#[(0,64,1),(64,32,2),(96,32,0)],7⟩):=by kernel_rfl
theorem C92(O:Ora prog w A s κ it (2 ^ 7) (u20 7)):r70 ((h70 (E:=E) O).body (T0 7)) 124 4 128 ⟨⟨sN 6++(upN 5 1 64++upN 5 1 96)⟩,#[(0,64,1),(64,32,2),(96,32,0)],7⟩=some (128,⟨⟨sN 6++(upN 5 1 64++upN 5 1 96)⟩,#[(0,64,1),(64,32,2),(96,32,0)],7⟩):=by kernel_rfl
theorem D02(O:Ora prog w A s κ it (2 ^ 7) (u20 7)):(h70 (E:=E) O).tail (T0 7) 128 ⟨⟨sN 6++(upN 5 1 64++upN 5 1 96)⟩,#[(0,64,1),(64,32,2),(96,32,0)],7⟩=some ((),TZ 7 1):=by kernel_rfl
theorem w7(O:Ora prog w A s κ it (2 ^ 7) (u20 7)):goW (E:=E) O (T0 7)=some ((),TZ 7 1):=two O (x10 (C52 O) (x10 (C62 O) (x10 (C72 O) (x10 (C82 O) (C92 O))))) (D02 O)
theorem D12(O:Ora prog w A s κ it (2 ^ 8) (u20 8)):(h70 (E:=E) O).body (T0 8) 0 0 (T0 8)=some (.yield 32,⟨⟨sN 5++Á4 32 224⟩,#[(0,32,0)],7⟩):=by kernel_rfl
theorem D22(O:Ora prog w A s κ it (2 ^ 8) (u20 8)):(h70 (E:=E) O).body (T0 8) 1 32 ⟨⟨sN 5++Á4 32 224⟩,#[(0,32,0)],7⟩=some (.yield 64,⟨⟨sN 5++(upN 5 1 32++Á4 64 192)⟩,#[(0,32,3),(32,32,0)],7⟩):=by kernel_rfl
theorem D32(O:Ora prog w A s κ it (2 ^ 8) (u20 8)):(h70 (E:=E) O).body (T0 8) 2 64 ⟨⟨sN 5++(upN 5 1 32++Á4 64 192)⟩,#[(0,32,3),(32,32,0)],7⟩=some (.yield 96,⟨⟨sN 6++(upN 5 1 64++Á4 96 160)⟩,#[(0,64,2),(64,32,0)],7⟩):=by kernel_rfl
theorem D42(O:Ora prog w A s κ it (2 ^ 8) (u20 8)):(h70 (E:=E) O).body (T0 8) 3 96 ⟨⟨sN 6++(upN 5 1 64++Á4 96 160)⟩,#[(0,64,2),(64,32,0)],7⟩=some (.yield 128,⟨⟨sN 6++(upN 5 1 64++(upN 5 1 96++Á4 128 128))⟩,#[(0,64,2),(64,32,3),(96,32,0)],7⟩):=by kernel_rfl
theorem D52(O:Ora prog w A s κ it (2 ^ 8) (u20 8)):(h70 (E:=E) O).body (T0 8) 4 128 ⟨⟨sN 6++(upN 5 1 64++(upN 5 1 96++Á4 128 128))⟩,#[(0,64,2),(64,32,3),(96,32,0)],7⟩=some (.yield 160,⟨⟨sN 7++(upN 5 1 128++Á4 160 96)⟩,#[(0,128,1),(128,32,0)],7⟩):=by kernel_rfl
theorem D62(O:Ora prog w A s κ it (2 ^ 8) (u20 8)):(h70 (E:=E) O).body (T0 8) 5 160 ⟨⟨sN 7++(upN 5 1 128++Á4 160 96)⟩,#[(0,128,1),(128,32,0)],7⟩=some (.yield 192,⟨⟨sN 7++(upN 5 1 128++(upN 5 1 160++Á4 192 64))⟩,#[(0,128,1),(128,32,3),(160,32,0)],7⟩):=by kernel_rfl
theorem D72(O:Ora prog w A s κ it (2 ^ 8) (u20 8)):(h70 (E:=E) O).body (T0 8) 6 192 ⟨⟨sN 7++(upN 5 1 128++(upN 5 1 160++Á4 192 64))⟩,#[(0,128,1),(128,32,3),(160,32,0)],7⟩=some (.yield 224,⟨⟨sN 7++(upN 6 1 128++(upN 5 1 192++Á4 224 32))⟩,#[(0,128,1),(128,64,2),(192,32,0)],7⟩):=by kernel_rfl
theorem D82(O:Ora prog w A s κ it (2 ^ 8) (u20 8)):(h70 (E:=E) O).body (T0 8) 7 224 ⟨⟨sN 7++(upN 6 1 128++(upN 5 1 192++Á4 224 32))⟩,#[(0,128,1),(128,64,2),(192,32,0)],7⟩=some (.yield 256,⟨⟨sN 7++(upN 6 1 128++(upN 5 1 192++upN 5 1 224))⟩,#[(0,128,1),(128,64,2),(192,32,3),(224,32,0)],7⟩):=by kernel_rfl
theorem D92(O:Ora prog w A s κ it (2 ^ 8) (u20 8)):r70 ((h70 (E:=E) O).body (T0 8)) 248 8 256 ⟨⟨sN 7++(upN 6 1 128++(upN 5 1 192++upN 5 1 224))⟩,#[(0,128,1),(128,64,2),(192,32,3),(224,32,0)],7⟩=some (256,⟨⟨sN 7++(upN 6 1 128++(upN 5 1 192++upN 5 1 224))⟩,#[(0,128,1),(128,64,2),(192,32,3),(224,32,0)],7⟩):=by kernel_rfl
theorem E02(O:Ora prog w A s κ it (2 ^ 8) (u20 8)):(h70 (E:=E) O).tail (T0 8) 256 ⟨⟨sN 7++(upN 6 1 128++(upN 5 1 192++upN 5 1 224))⟩,#[(0,128,1),(128,64,2),(192,32,3),(224,32,0)],7⟩=some ((),TZ 8 1):=by kernel_rfl
theorem w8(O:Ora prog w A s κ it (2 ^ 8) (u20 8)):goW (E:=E) O (T0 8)=some ((),TZ 8 1):=two O (x10 (D12 O) (x10 (D22 O) (x10 (D32 O) (x10 (D42 O) (x10 (D52 O) (x10 (D62 O) (x10 (D72 O) (x10 (D82 O) (D92 O))))))))) (E02 O)
theorem E12{K:Nat}(h1:1<=K)(h8:K<=8)(O:Ora prog w A s κ it (2 ^ K) (u20 K)):∃ p,goW (E:=E) O (T0 K)=some ((),TZ K p):=by
 match K,h1,h8,O with
 |1,_,_,O=>exact⟨_,w1 O⟩|2,_,_,O=>exact⟨_,w2 O⟩|3,_,_,O=>exact⟨_,w3 O⟩|4,_,_,O=>exact⟨_,w4 O⟩|5,_,_,O=>exact⟨_,w5 O⟩|6,_,_,O=>exact⟨_,w6 O⟩|7,_,_,O=>exact⟨_,w7 O⟩|8,_,_,O=>exact⟨_,w8 O⟩
theorem runL{K:Nat}{vs:List Ã}(h1:1<=K)(h8:K<=8)(hv:vs.length=2 ^ K)(O:Ora prog w A s κ (vs.toArray.zip vs.toArray) (2 ^ K) (u20 K)):MySort.o42 prog w A s vs (λp=>p=sN K) κ:=by
 refine⟨sN K,rfl,λE Q q=>?_⟩;obtain⟨pp,e⟩:=E12 (E:=E) h1 h8 O;have r:=(h70 (E:=E) O).sim (T0 K) () (TZ K pp) e (λu st s'=>s'=s/\failedOf st=none/\arrOf st=((sN K).toArray).map (é (vs.toArray.zip vs.toArray))) ⟨rfl,rfl,rfl⟩;have est:É1 κ (vs.toArray.zip vs.toArray) #[] 7 none=co κ (vs.toArray.zip vs.toArray) (T0 K):=by
  have e:=kas_range (vs.toArray.zip vs.toArray);rw[show(vs.toArray.zip vs.toArray).size=2 ^ K by simp[hv]] at e
  show _=É1 κ ((toArray (î (2 ^ K))).map (é (vs.toArray.zip vs.toArray))) #[] 7 none;rw[e]
 rw[est];refine Ã8 r (λx s' h=>?_) λ_ _ e=>e;obtain⟨rfl,h2,h3⟩:=h;exact q x.2 h2 h3
end
end TS
namespace HT
open PySem PyProof.Rows
section
open PySem.SeqAt
open PySem.AutoSeq1 (wpAny_loadPart')
open PySem.MeetsSeq PySem.MeetsSeq2 PySem.MeetsSeq3
open MySort (h40)
def leB(ns ms:List Int):Bool:=!h40 ms ns
theorem x41(x y:Int)(r q:List Int):leB (x::r) (y::q)=if x=y then leB r q else decide (x<=y):=by
 show(!(if y=x then h40 q r else decide (y < x)))=_;by_cases e:x=y
 ·rw[if_pos e,if_pos e.symm];rfl
 ·rw[if_neg e,if_neg (À4 e)];by_cases l:y < x
  ·rw[decide_eq_true l,decide_eq_false ∅];rfl
  ·rw[decide_eq_false l,decide_eq_true ∅];rfl
theorem x51(A:þ)(s:Å)(a:Int)(t:Tok)(c:Int)(u:Tok)(P:à)(w:ö)(E:Ã->Å->Prop)(Q:Ã->Å->Prop)(h:Q (.bool (decide (a<=c))) s):Ï (Ô P w) A (richCompare .LtE (.int a t) (.int c u)) Q E s :=
 (PyProof.Rows.le_int h:Ï (Ô P w) A (ñ .LtE (.int a t) (.int c u)) Q E s)
theorem G80(l b:Ç)(i1 i2:Array Ã)(n n2:Nat)(dd dd2:Option Ç)(sl sl2:Array (Option Ã))(ns ms:List Int)(hi:È7 i1.toList ns)(hj:È7 i2.toList ms) :
  Meets (Å2.«tuple.__le__» ⟨[.ref l,.ref b],[]⟩) (λ_ R s=>s.heap.get? l=some { cls:=.type "tuple",dict:=dd,data:=.seq i1 n,slots:=sl }/\s.heap.get? b=some { cls:=.type "tuple",dict:=dd2,data:=.seq i2 n2,slots:=sl2 }/\R (.ok (.ret (.bool (leB ns ms)))) s) :=
 .of_wp λP w A R s h=>by
  obtain⟨hp,g,d,tk,os⟩:=s;obtain⟨hl,hb,h⟩:=h;have f2:=Ù0;have z1:i1.size=ns.length:=by rw[← hi.length];simp
  have z2:i2.size=ms.length:=by rw[← hj.length];simp
  wp_walk using Ã0 hl,Ã0 hb,wpAny_forIn_list _ (λrest b s'=>b.1=none/\s'=⟨hp,g,d,tk,os⟩/\∃ (vs ws:List Ã) (ns' ms':List Int),rest=vs.zip ws/\È7 vs ns'/\È7 ws ms'/\ns'.length + i2.size=ms'.length + i1.size/\R (.ok (.ret (.bool (leB ns' ms')))) ⟨hp,g,d,tk,os⟩) _
  case turn =>
   rintro ⟨y,x⟩ rest b s' ⟨hb',rfl,vs,ws,ns',ms',hz,hvi,hwi,hlen,hR⟩;cases hvi with
   |nil=>rw[Õ3] at hz;cases hz
   |cons a t hvi' =>
    cases hwi with
    |nil=>rw[List.zip_nil_right] at hz;cases hz
    |cons c u hwi' =>
     rw[Ç8] at hz;injection hz with hyx hrest;injection hyx with hy hx;subst hy hx;rw[x41] at hR;simp only[Ø] at hlen;obtain⟨e,he,hiff⟩:=v21 A.in1 ⟨hp,g,d,tk,os⟩ a t c u;refine À (he P w _ _ ?_);cases e with
     |true =>
      rw[if_pos (hiff.mp rfl)] at hR;wp_walk;exact⟨rfl,rfl,_,_,_,_,hrest,hvi',hwi',by omega,hR⟩
     |false =>
      rw[if_neg (λq=>absurd (hiff.mpr q) Ñ)] at hR;have hri:=x51 A.in1 ⟨hp,g,d,tk,os⟩ a t c u P w
      wp_walk using hri
      exact⟨_,rfl,by simpa using hR⟩
  case fin =>
   rintro ⟨b1,b2⟩ s' ⟨hb',rfl,vs,ws,ns',ms',hz,hvi,hwi,hlen,hR⟩;simp only at hb';subst hb';have hv:leB ns' ms'=decide (i1.size<=i2.size):=by
    cases hvi with
    |nil =>
     cases hwi with
     |nil=>simp only[Á9] at hlen;exact(decide_eq_true ∅).symm|cons c u hw=>simp only[Á9,Ø] at hlen;exact(decide_eq_true ∅).symm
    |cons a t hv =>
     cases hwi with
     |nil=>simp only[Á9,Ø] at hlen;exact(decide_eq_false ∅).symm|cons c u hw=>rw[Ç8] at hz;cases hz
   rw[hv] at hR;wp_walk;exact⟨_,rfl,by simpa [tupleCompareSizes] using hR⟩
  case h=>exact⟨rfl,rfl,i1.toList,i2.toList,ns,ms,rfl,hi,hj,by omega,h⟩
end
section
variable {P:à}{w:ö}{A:þ}{E:Ã->Å->Prop}{s:Å}
theorem d31(hl:Ê5 s.heap l i1)(hb:Ê5 s.heap b i2)(hi:È7 i1.toList ns)(hj:È7 i2.toList ms)
  (hu:A.units < Å0) (h:Q (.bool (leB ns ms)) s):Ï (Ô P w) A (ñ .LtE (.ref l) (.ref b)) Q E s:=by
 obtain⟨⟨cls,dd,data,sl⟩,ho,hc,n,hd⟩:=id hl;obtain⟨⟨cls2,dd2,data2,sl2⟩,ho2,hc2,n2,hd2⟩:=id hb;simp only at hc hd hc2 hd2;subst hc hd hc2 hd2;exact richCompare_meets_room (op:=.LtE) ⟨_,ho,rfl⟩ ⟨_,ho2,rfl⟩ PySem.F.slot_tuple_le PySem.F.entry_tuple_le (PySem.F.args_tuple_le_2 _ _) (G80 l b i1 i2 n n2 dd dd2 sl sl2 ns ms hi hj)
  ⟨ho,ho2,show Ë4 (leB ns ms)≠Ñ2/\Q (.bool (leB ns ms)) s from⟨(λx=>nomatch x),h⟩⟩ hu
theorem L21{t b:Ç}{ws:List Ã}{Q:Ã->Å->Prop}(ht:Ê5 s.heap t #[])(hb:Ê5 s.heap b ws.toArray)(h:Q (.ref b) s):Ï (Ô P w) A (Â8 .Add (.ref t) (.ref b)) Q E s:=by
 obtain⟨⟨cls,dd,data,sl⟩,ho,hc,n,hd⟩:=id ht;obtain⟨⟨cls2,dd2,data2,sl2⟩,ho2,hc2,n2,hd2⟩:=id hb;simp only at hc hd hc2 hd2;subst hc hd hc2 hd2;exact concat_meets ⟨_,ho,rfl⟩ ⟨_,ho2,rfl⟩ Ú6 seq_tuple_add Î0 Í3 (Ì4 _ _) (tuple_addW0 t b #[] ws.toArray n n2 dd dd2 sl sl2 (by simp)) ⟨ho,ho2,h⟩
theorem N10:seqRepeat? (.type "tuple")=pure (some (.builtin "tuple.__mul__")):=by
 first | kernel_rfl | rfl | (unfold seqRepeat?;kernel_rfl)
theorem x20:fillsNumberSlot (.type "tuple") "mul"=pure false:=by
 first | kernel_rfl | rfl
theorem d41(a:Int)(t:Tok)(l:Ç)(xs:Array Ã)(n:Nat)(dd:Option Ç)(sl:Array (Option Ã)) :
  Meets (Å2.«int.__rmul__» ⟨[.int a t,.ref l],[]⟩) (λ_ R s=>s.heap.get? l=some { cls:=.type "tuple",dict:=dd,data:=.seq xs n,slots:=sl }/\R (.ok (.ret Ñ2)) s) :=
 .of_wp λP w A R s h=>by obtain⟨hp,g,d,tk,os⟩:=s;obtain⟨hl,h⟩:=h;wp_walk;exact⟨_,rfl,h⟩
theorem x61(l:Ç)(xs:Array Ã)(k:Int)(u:Tok)(n:Nat)(dd:Option Ç)(sl:Array (Option Ã))(h1:¬ (decide (k < -(2 ^ 63)) || decide (k ≥ 2 ^ 63))=true)(h2:(xs.isEmpty || k == 1)=true) :
  Meets (Å2.«tuple.__mul__» ⟨[.ref l,.int k u],[]⟩) (λ_ R s=>s.heap.get? l=some { cls:=.type "tuple",dict:=dd,data:=.seq xs n,slots:=sl }/\R (.ok (.ret (.ref l))) s) :=
 .of_wp λP w A R s h=>by
  obtain⟨hp,g,d,tk,os⟩:=s;obtain⟨hl,h⟩:=h;have f1:=Ó9
  wp_walk using Â3 hl
  simp only[h1,if_false]
  wp_walk using Â3 hl
  exact⟨_,rfl,h⟩
theorem mul_zero(l:Ç)(xs:Array Ã)(k:Int)(u:Tok)(n:Nat)(dd:Option Ç)(sl:Array (Option Ã))(h1:¬ (decide (k < -(2 ^ 63)) || decide (k ≥ 2 ^ 63))=true)(h2:¬ (xs.isEmpty || k == 1)=true)(h3:(decide (k<=0) || xs.isEmpty)=true) :
  Meets (Å2.«tuple.__mul__» ⟨[.ref l,.int k u],[]⟩) (λ_ R s=>s.heap.get? l=some { cls:=.type "tuple",dict:=dd,data:=.seq xs n,slots:=sl }/\R (.ok (.ret (.ref s.heap.objs.size))) { s with heap:=s.heap.push { cls:=.type "tuple",data:=.seq #[] } }) :=
 .of_wp λP w A R s h=>by
  obtain⟨hp,g,d,tk,os⟩:=s;obtain⟨hl,h⟩:=h;have f1:=Ó9
  wp_walk using Â3 hl
  simp only[h1,if_false]
  wp_walk using Â3 hl
  exact⟨_,rfl,h⟩
theorem x71(l:Ç)(xs:Array Ã)(k:Int)(u:Tok)(n:Nat)(dd:Option Ç)(sl:Array (Option Ã))(h1:¬ (decide (k < -(2 ^ 63)) || decide (k ≥ 2 ^ 63))=true)(h2:¬ (xs.isEmpty || k == 1)=true)(h3:¬ (decide (k<=0) || xs.isEmpty)=true)
  (h4:¬ (xs.size:Int) * k > (2 ^ 63 - 1) / 8) (h5:¬ tupleTooMany ((xs.size:Int) * k)=true) (h6:(foldl (λx y=>x++y) #[] (Õ k.toNat xs)).size<=sizeLine) :
  Meets (Å2.«tuple.__mul__» ⟨[.ref l,.int k u],[]⟩) (λ_ R s=>s.heap.get? l=some { cls:=.type "tuple",dict:=dd,data:=.seq xs n,slots:=sl }/\R (.ok (.ret (.ref s.heap.objs.size))) { s with heap:=s.heap.push { cls:=.type "tuple",data:=.seq (foldl (λx y=>x++y) #[] (Õ k.toNat xs)) } }) :=
 .of_wp λP w A R s h=>by
  obtain⟨hp,g,d,tk,os⟩:=s;obtain⟨hl,h⟩:=h;have f1:=Ó9
  wp_walk using Â3 hl
  simp only[h1,if_false]
  wp_walk using Â3 hl
  simp only[h4,h5,if_false];refine À (m:=Ä7 _) (å (Æ ?_) h6);exact⟨_,rfl,h⟩
end
theorem r80(f:α->Option β)(g:α->β):∀ (l:List α),(∀ k∈l,f k=some (g k))->l.filterMap f=l.map g
 |[],_=>rfl|x::r,h=>by rw[À5,h x Ð,Ç9,r80 f g r λk hk=>h k (Ì _ hk)]
section
variable {P:à}{w:ö}{A:þ}{E:Ã->Å->Prop}{s:Å}
theorem p90{t sl:Ç}{xs:Array Ã}{vl vu:Ã}{lo hi:Option Int}{Q:Ã->Å->Prop}(ht:Ê5 s.heap t xs)(hs:s.heap.IsSliceOf sl vl vu .none)(pl:Ô9 vl lo)(pu:Ô9 vu hi)
  (hw:sIx xs.size 0 lo=0/\sIx xs.size xs.size hi=xs.size) (h:Q (.ref t) s):Ï (Ô P w) A (Ï3 (.ref t) (.ref sl)) Q E s:=by
 obtain⟨os,hos,hcs,hds⟩:=id hs;have hTs:s.TypeIs (.ref sl) "slice":=⟨os,hos,hcs⟩;unfold Ï3;try with_reducible refine Æ6 ?_
 first | refine À (Æ ?_) | skip
 refine À (Ù1 ht.typeIs (-0) ?_);refine À (Á5 (name:=À8 "__getitem__") ht.typeIs è (Ã7 è ht.typeIs entry_tuple_getitem ?_ (Ö7 _ _)))
 show Ï _ _ (tupleItemsOf (.ref t) >>= _) _ _ s;refine À (tupleItemsOf_ ht (À (É5 hTs ?_)));rw[if_pos (-0)];refine À (l40 hs pl pu ?_)
 rw[hw.1,hw.2];show Ï _ _ (if (((0:Nat):Int) == 0&&(1:Int) == 1&&(xs.size - 0) == xs.size)=true then _ else _) _ _ s;rw[if_pos (by simp)]
 refine À (m:=tupleIsExact _) ?_;unfold tupleIsExact;refine À (É5 ht.typeIs (Æ ?_));rw[if_pos (-0)]
 first
  |exact À (Ê7 (Æ ⟨_,rfl,Æ h⟩))
  |exact À (Ê7 (À (Æ (Æ ⟨_,rfl,Æ h⟩))))
theorem u40{t sl:Ç}{xs:List Ã}{u:Tok}{Q:Ã->Å->Prop}(ht:Ê5 s.heap t xs.toArray)(hs:s.heap.IsSliceOf sl .none .none (.int (-1) u))
  (h:Q (.ref s.heap.objs.size) { s with heap:=s.heap.push { cls:=.type "tuple",data:=.seq xs.reverse.toArray } }) (hz:xs.length<=sizeLine):Ï (Ô P w) A (Ï3 (.ref t) (.ref sl)) Q E s:=by
 obtain⟨os,hos,hcs,hds⟩:=id hs;have hTs:s.TypeIs (.ref sl) "slice":=⟨os,hos,hcs⟩;unfold Ï3;try with_reducible refine Æ6 ?_
 first | refine À (Æ ?_) | skip
 refine À (Ù1 ht.typeIs (-0) ?_);refine À (Á5 (name:=À8 "__getitem__") ht.typeIs è (Ã7 è ht.typeIs entry_tuple_getitem ?_ (Ö7 _ _)))
 show Ï _ _ (tupleItemsOf (.ref t) >>= _) _ _ s;refine À (tupleItemsOf_ ht (À (É5 hTs ?_)));rw[if_pos (-0)]
 have app:∀ {R:Int × Int × Nat->Å->Prop},R ((xs.length:Int) - 1,-1,xs.length) s->Ï (Ô P w) A.in1 (Ð5 (.ref sl) (pure (xs.toArray.size:Int))) R E s:=λ{R} q=>by
  unfold Ð5 sliceFields;refine À (À (À2 hos hds (x:=.none) rfl (À (À2 hos hds (x:=.none) rfl (À (À2 hos hds (x:=.int (-1) u) rfl (Æ ?_)))))));refine À (slicePart_int ?_);show Ï _ _ (if ((-1:Int) == 0)=true then _ else _) _ _ s;rw[if_neg (-0)]
  refine À (Ô1 (À (Ô1 (À (Æ ?_)))));have e1:Ê1 none none (-1) (xs.toArray.size:Int)=((xs.length:Int) - 1,-1):=by simp[Ê1]
  have e2:Ç0 ((xs.length:Int) - 1) (-1) (-1)=xs.length:=by
   unfold Ç0;rw[if_neg (-0)]
   split
   ·simp only[Int.neg_neg,Int.ediv_one];omega
   ·omega
  show Ï _ _ (match Ê1 none none (-1) (xs.toArray.size:Int) with | (lo,hi)=>pure (lo,(-1:Int),Ç0 lo hi (-1))) _ _ s
  rw[e1];show Ï _ _ (pure ((xs.length:Int) - 1,(-1:Int),Ç0 ((xs.length:Int) - 1) (-1) (-1))) _ _ s;rw[e2];exact Æ q
 refine À (app ?_);show Ï _ _ (if (((xs.length:Int) - 1) == 0&&(-1:Int) == 1&&xs.length == xs.toArray.size)=true then _ else _) _ _ s;rw[if_neg (by simp)]
 have pick:((î xs.length).filterMap λ(k:Nat)=>xs.toArray[((xs.length:Int) - 1 + (k:Int) * -1).toNat]?)=xs.reverse:=by
  refine List.ext_getElem? λi=>?_;have hall:∀ k∈î xs.length,xs.toArray[((xs.length:Int) - 1 + (k:Int) * -1).toNat]?=some (xs.getD (xs.length - 1 - k) á):=λk hk=>by
   have hk':k < xs.length:=by simpa using hk
   have e:((xs.length:Int) - 1 + (k:Int) * -1).toNat=xs.length - 1 - k:=by omega
   rw[e];have:xs.length - 1 - k < xs.length:=by omega
   simp[this]
  rw[r80 _ _ _ hall,Û];by_cases hi:i < xs.length
  ·have h2:xs.length - 1 - i < xs.length:=by omega
   rw[Ò8 hi,List.getElem?_reverse hi];simp[h2]
  ·rw[Ü6 (by simpa using hi),Ü6 (by simpa using hi)];rfl
 rw[pick];have hsz:sizeOk (.seq xs.reverse.toArray):=by show xs.reverse.toArray.size<=sizeLine;rw[Ó,Ì9];exact hz
 first
  |exact À (m:=Ä7 _) (å (Æ ⟨_,rfl,Æ h⟩) hsz)
  |exact À (m:=Ä7 _) (å (À (Æ (Æ ⟨_,rfl,Æ h⟩))) hsz)
  |exact À (À (m:=Ä7 _) (å (Æ (Æ ⟨_,rfl,Æ h⟩)) hsz))
  |exact À (À (m:=Ä7 _) (å (Æ ⟨_,rfl,Æ h⟩) hsz))
end
end HT
namespace L2
open PySem PySem.Spec PyProof.Rows
theorem a30.sqT{K:Â}{H H':Hp}{a:Ç}{xs:List V}(e:a30 H H')(h:SqT K H a xs):SqT K H' a xs:=by
 rcases h with (h | ⟨o,h⟩) | h
 ·exact .inl (.inl (e _ _ h))
 ·exact .inl (.inr ⟨o,e _ _ h⟩)
 ·exact .inr h
theorem a30.new(o:HO)(n:H p=none):a30 H (upd H p o):=λb u e=>by rw[a60 (b20 e n)];exact e
def x81(K:Â)(H:Hp)(zs:List V)(Q:VK):Prop:=∀ p H',a30 H H'->SqT K H' p zs->Q (.ref p) H'
section
variable {X:Cx}{pins:List (Ç × Obj)}{σ:St}{H:Hp}{s:Å}
theorem x81.here(q:x81 X.K H zs Q)(I:Inv X pins σ H s)(h:SqT X.K H a zs):EP X pins σ Q (.ref a) s:=⟨.ref a,H,I,rfl,q a H (a30.refl H) h⟩
theorem x81.new(q:x81 X.K H zs Q)(I:Inv X pins σ H s)(r:Vals zs us)(hz:zs.length<=sizeLine) :
  EP X pins σ Q (.ref s.heap.objs.size) { s with heap:=s.heap.push { cls:=.type "tuple",data:=.seq us.toArray } } :=
 have hn:H s.heap.objs.size=none:=I.hok.fresh (È _)
 ⟨.ref s.heap.objs.size,_,I.laid (t':=s.toks) (o:=.tup zs) (λb ob q=>Ä _ q) (È _) ⟨hz,_,r,Ê5.new _ _⟩,rfl,q _ _ (a30.new _ hn) (SqT.of c20)⟩
end
section
variable {X:Cx}
def E22(K:Â):R2:=λx y H Q=>∃ a b ns ms,x=.ref a/\y=.ref b/\SqT K H a (ns.map V.int)/\SqT K H b (ms.map V.int)/\Q (.bl (HT.leB ns ms)) H
theorem Y81(hu:X.A.units < Å0):OpR X (ñ .LtE) (E22 X.K):=by
 intro pins s σ H x y v u Q I rx ry h;obtain⟨a,b,ns,ms,rfl,rfl,ha,hb,q⟩:=h;cases rx;cases ry;obtain⟨v1,r1,p1,_⟩:=I.tuple ha;obtain⟨v2,r2,p2,_⟩:=I.tuple hb;exact HT.d31 p1 p2 (show È7 v1.toArray.toList ns from intsAre_of r1) (show È7 v2.toArray.toList ms from intsAre_of r2) hu ⟨.bl (HT.leB ns ms),H,I,rfl,q⟩
def o92(K:Â):R2:=λx y H Q=>∃ a b xs ys,x=.ref a/\y=.ref b/\SqT K H a xs/\SqT K H b ys/\xs.length + ys.length<=sizeLine/\x81 K H (xs++ys) Q
theorem L31:OpR X (Â8 .Add) (o92 X.K):=by
 intro pins s σ H x y v u Q I rx ry h;obtain⟨a,b,xs,ys,rfl,rfl,ha,hb,hz,q⟩:=h;cases rx;cases ry;obtain⟨v1,r1,p1,_⟩:=I.tuple ha;obtain⟨v2,r2,p2,_⟩:=I.tuple hb;by_cases hx:xs=[]
 ·subst hx;have e:=r1.F60.mpr rfl;subst e;exact HT.L21 p1 p2 (q.here I hb)
 ·refine HT.J11 p1 p2 (λz=>hx (r1.F60.mp z)) (λz=>?_) (λz=>q.new I (r1.append r2) (by rw[Ã1];exact hz)) (by rw[← r1.length,← r2.length];exact hz)
  have e:=r2.F60.mp z;subst e;rw[append_nil] at q;exact q.here I ha
def p02(K:Â):R2:=λx y H Q=>∃ a k xs,x=.ref a/\y=.int k/\SqT K H a xs/\0<=k/\k < 1000000/\k.toNat * xs.length<=sizeLine/\x81 K H (Õ k.toNat xs).flatten Q
theorem L41:OpR X (Â8 .Mult) (p02 X.K):=by
 intro pins s σ H x y v u Q I rx ry h;obtain⟨a,k,xs,rfl,rfl,ha,hk,hk2,hz,q⟩:=h;cases rx;obtain⟨t,rfl⟩:=ry;obtain⟨v1,r1,p1,_⟩:=I.tuple ha;have hl:=r1.length;obtain⟨⟨cls,dd,data,sl⟩,ho,hc,n,hd⟩:=id p1;simp only at hc hd;subst hc hd;have h1:¬ (decide (k < -(2 ^ 63)) || decide (k ≥ 2 ^ 63))=true:=by simp;omega
 refine wpAny_binaryOp_repeat_ref (T:="tuple") (U:="int") (-0) ⟨_,ho,rfl⟩ (λs'=>Ö5 s' k t) HT.x20 F.fills_int_mul Ñ8 HT.N10 F.slot_int_index.lookup
  (Æ3 Ñ8 (Ö5 s k t) F.entry_int_rmul (F.args_int_rmul_2 _ _) (HT.d41 k t a v1.toArray n dd sl) ⟨ho,rfl,⟨_,ho,rfl⟩,?_⟩)
 by_cases hx:v1=[]∨k=1
 ·refine Æ3 Ù8 ⟨_,ho,rfl⟩ Ø6 (Õ9 _ _) (HT.x61 a v1.toArray k t n dd sl h1 (by rcases hx with hx | hx <;> simp[hx])) ⟨ho,?_⟩
  have e2:(Õ k.toNat xs).flatten=xs:=by
   rcases hx with hx | hx
   ·rw[r1.F60.mp hx];simp
   ·rw[hx];simp
  rw[e2] at q;exact q.here I ha
 ·have hv:v1≠[]:=λz=>hx (.inl z);have h2:¬ (v1.toArray.isEmpty || k == 1)=true:=by simp[hv];exact λz=>hx (.inr z)
  by_cases hk0:k=0
  ·refine Æ3 Ù8 ⟨_,ho,rfl⟩ Ø6 (Õ9 _ _) (HT.mul_zero a v1.toArray k t n dd sl h1 h2 (by simp[hk0])) ⟨ho,?_⟩
   rw[show(Õ k.toNat xs).flatten=[] by rw[hk0];rfl] at q
   exact q.new I .nil (Ä3 _)
  have hpos:0 < v1.length:=List.length_pos_iff.mpr hv;have hfl:foldl (λx y=>x++y) #[] (Õ k.toNat v1.toArray)=(Õ k.toNat v1).flatten.toArray:=by
   have:=foldl_rep v1 k.toNat [];rw[Ì8] at this;exact this
  have hsz:v1.length * k.toNat<=sizeLine:=by rw[← hl,Ð0];exact hz
  have hcast:((v1.toArray.size:Nat):Int) * k=((v1.length * k.toNat:Nat):Int):=by rw[Ó,Int.natCast_mul,Int.toNat_of_nonneg ∅]
  have hline:(sizeLine:Nat)<=(2 ^ 63 - 1) / 8:=by decide
  refine Æ3 Ù8 ⟨_,ho,rfl⟩ Ø6 (Õ9 _ _) (HT.x71 a v1.toArray k t n dd sl h1 h2 (by simp[hv];omega) (by rw[hcast];generalize v1.length * k.toNat=m at hsz;omega) (by rw[hcast];generalize v1.length * k.toNat=m at hsz;unfold tupleTooMany;intro z;have z':=of_decide_eq_true z;omega)
   (by rw[hfl,Ó,len_rep,Ð0];exact hsz)) ⟨ho,?_⟩
  rw[hfl];exact q.new I (r1.rep k.toNat) (by rw[len_rep];exact hz)
def E32(K:Â):V->Option Int->Option Int->Hp->VK->Prop:=λx lo hi H Q=>∃ a xs,x=.ref a/\SqT K H a xs/\x81 K H (v51 xs lo hi) Q
theorem L51:SlR X (E32 X.K):=by
 intro pins s σ H x v vl vu lo hi sl Q I rx hs pl pu h;obtain⟨a,xs,rfl,hx,q⟩:=h;cases rx;obtain⟨its,r,ht,hz⟩:=I.tuple hx;have hlen:its.toArray.size=xs.length:=by rw[Ó];exact r.length.symm
 refine⟨"tuple",_,è.lookup,ht.typeIs,?_⟩;by_cases hw:HT.sIx xs.length 0 lo=0/\HT.sIx xs.length xs.length hi=xs.length
 ·refine HT.p90 ht hs pl pu (by rw[hlen];exact hw) ?_
  have e:v51 xs lo hi=xs:=by unfold v51;rw[hw.1,hw.2];simp
  rw[e] at q;exact q.here I hx
 ·refine HT.u30 ht hs pl pu (by rw[hlen];exact hw) ?_ (by rw[hlen];exact hz)
  rw[hlen];exact q.new I ((r.drop (HT.sIx xs.length 0 lo)).take (HT.sIx xs.length xs.length hi - HT.sIx xs.length 0 lo)) (Ò (z30 xs lo hi) hz)
def k22(K:Â)(te ts:TE):TE:=λσ H Q=>te σ H λx H1=>ts σ H1 λy H2=>y=.int (-1)/\((∃ a xs,x=.ref a/\SqT K H2 a xs/\x81 K H2 xs.reverse Q)∨∃ a xs,x=.ref a/\SqL K H2 a xs/\∀ p,H2 p=none->Q (.ref p) (upd H2 p (.lst xs.reverse)))
theorem Y91{e st:Í}{te ts:TE}{p2 pos:Pos}(he:PE X e te)(hst:PE X st ts):PE X (.Subscript e (.Slice none none (some st) p2) pos) (k22 X.K te ts):=by
 intro pins s σ H Q I h;refine Subscript_ (thn (he pins s σ H _ I h) λv s1 ⟨x,H1,I1,r1,q1⟩=>?_);refine wpAny_Slice ?_;rw[evalPart_none];refine Æ (Æ ?_);rw[evalPart_some];refine thn (hst pins s1 σ H1 _ I1 q1) λw' s2 ⟨y,H2,I2,r2,q2⟩=>?_;obtain⟨rfl,q2⟩:=q2;obtain⟨t,rfl⟩:=r2;have I4:Inv X pins σ H2 { s2 with heap:=s2.heap.push { cls:=.type "slice",data:=.fields #[.none,.none,.int (-1) t] } }:=I2.kept (t':=s2.toks) λb ob q=>Ä _ q;show Ï (Ô X.prog X.w) X.A (subscriptTail e (.Slice none none (some st) p2) v (.ref s2.heap.objs.size)) (EP X pins σ Q) X.xe { s2 with heap:=s2.heap.push { cls:=.type "slice",data:=.fields #[.none,.none,.int (-1) t] } };rcases q2 with ⟨a,xs,rfl,hq,q⟩ | ⟨a,xs,rfl,hq,q⟩
 ·cases r1;obtain⟨its,r,ht,hz⟩:=I4.tuple hq;exact tail_any (ops:=[.ref a,.ref s2.heap.objs.size]) ht.typeIs è.lookup (HT.u40 ht (Î8 ..) (q.new I4 r.reverse (by rw[Ì9];exact hz)) (by rw[← r.length];exact hz)) (by with_unfolding_all rfl)
 ·cases r1;obtain⟨its,r,ht,hz⟩:=I4.list hq;have hlen:=r.length;refine tail_any (ops:=[.ref a,.ref s2.heap.objs.size]) ht.isList.typeIs slot_list_getitem.lookup (wpAny_getItem_list_slice ht.isList (Î8 ..) .none .none (.int (-1) t) (by simp) ?_ (by rw[Ó] <;> omega)) (by with_unfolding_all rfl)
  rw[PySem.W.krv_pick];refine⟨.ref _,_,I4.laid (t':=s2.toks) (o:=.lst xs.reverse) (λb ob q=>Ä _ q) (È _) ?_,rfl,q _ (I4.hok.fresh (È _))⟩;exact⟨by rw[Ì9];exact hz,its.reverse,0,r.reverse,Î _ rfl⟩
theorem Z01:OpR X (ñ .Is) (λx y H Q=>∃ b c,x=.bl b/\y=.bl c/\Q (.bl (b == c)) H):=by
 intro pins s σ H x y v u Q I rx ry h;obtain⟨b,c,rfl,rfl,q⟩:=h;cases rx;cases ry;exact is_bool (W70 I q rfl)
theorem Z11:OpR X (ñ .IsNot) (λx y H Q=>∃ b c,x=.bl b/\y=.bl c/\Q (.bl (b != c)) H):=by
 intro pins s σ H x y v u Q I rx ry h;obtain⟨b,c,rfl,rfl,q⟩:=h;cases rx;cases ry;exact isnot_bool (W70 I q rfl)
theorem Inv.big(I:Inv X pins σ H s):sysModules < s.heap.objs.size:=by
 have h:ì < s.heap.objs.size:=(I.mod.glob.keeps I.bk).lt;exact Nat.lt_trans (-0) h
def p12:TE:=λ_ H Q=>∀ p,H p=none->Q (.ref p) (upd H p (.dK []))
theorem L61:PE X (.Dict [] [] pos) p12:=λpins s σ H Q I h =>
 wpAny_Dict_empty ⟨.ref s.heap.objs.size,_,I.laid (a:=s.heap.objs.size) (o:=.dK []) (t':=s.toks) (λ_ _ q=>Ä _ q) (È _) ⟨Ä3 _,beq_eq_false_iff_ne.mpr (À4 (ã I.big)),[],.nil,í.DictOf.new _⟩,rfl,h _ (I.hok.fresh (È _))⟩
end
end L2
namespace MySort
open PySem PySem.W PyProof.Rows
section
variable {P:à}{w:ö}{A:þ}{E:Ã->Å->Prop}{s:Å}
theorem S00(ho:s.heap.get? l=some o)(hc:o.cls=.type "list"∨o.cls=.type "tuple")(hd:o.data=.seq vs.toArray n)
  (h:Q vs { s with heap:=(s.heap.push (Â5 "list" #[] 0)).update s.heap.objs.size (À3 (·++vs.toArray)) }) (hz:vs.length<=sizeLine):Ï (Ô P w) A (collect (.ref l)) Q E s:=by
 unfold collect;refine À (wpAny_runValue (Ì2 entry_proto_collect' ?_));show Ï _ _ (do again (.builtin "list.__iadd__" ⟨[← newList [],.ref l],[]⟩)) _ _ s;refine À (wpAny_newList (Æ ⟨Code.quiet_builtin _ (by decide +kernel),Ì2 entry_list_iadd' ?_⟩))
 show Ï _ _ (É3 (.ref s.heap.objs.size) (.ref l) (.ref s.heap.objs.size)) _ _ { s with heap:=s.heap.push (Â5 "list" #[] 0) };unfold É3;have ho':(s.heap.push (Â5 "list" #[] 0)).get? l=some o:=Ä _ ho;have fin:Ï (Ô P w) A (do
   let o ← load s.heap.objs.size
   match o.data with
   |.seq xs _=>pure xs.toList
   |_=>unsupported "internal:collect") Q E { s with heap:=(s.heap.push (Â5 "list" #[] 0)).update s.heap.objs.size (À3 (·++vs.toArray)) }:=by
  refine À (wpAny_load (Û9 (Î _ rfl) _) ?_);show Ï _ _ (pure ((#[]:Array Ã)++vs.toArray).toList) Q E _;rw[show((#[]:Array Ã)++vs.toArray).toList=vs by simp];exact Æ h
 rcases hc with hc | hc
 ·refine À (É5 (T:="list") ⟨o,ho',hc⟩ ?_);rw[if_pos (by rw[show(Â4 "list" == Â4 "list")=true by rfl];simp)]
  refine À (Í1 ho' hd (À (Í1 (xs:=#[]) (n:=0) (Î _ rfl) rfl ?_)));rw[if_neg (by simp)]
  exact À (Ö2 (xs:=#[]) (n:=0) (Î _ rfl) rfl (Æ fin) (Ä3 _) (by show(#[]++vs.toArray).size<=sizeLine + 1;simp only[Array.size_append,Ó,Á9];omega))
 ·refine À (É5 (T:="tuple") ⟨o,ho',hc⟩ ?_);rw[if_pos (by rw[show(Â4 "tuple" == Â4 "tuple")=true by rfl];simp)]
  refine À (Í1 ho' hd (À (Í1 (xs:=#[]) (n:=0) (Î _ rfl) rfl ?_)));rw[if_neg (by simp)]
  exact À (Ö2 (xs:=#[]) (n:=0) (Î _ rfl) rfl (Æ fin) (Ä3 _) (by show(#[]++vs.toArray).size<=sizeLine + 1;simp only[Array.size_append,Ó,Á9];omega))
theorem j41(ho:s.heap.get? l=some o)(hc:o.cls=.type "list"∨o.cls=.type "tuple")(hd:o.data=.seq vs.toArray n)
  (hk:∀ h',j11 s.heap h'->Y31 P w A.in1.in1 { s with heap:=h' } vs Pr kd)
  (h:∀ (p:List Nat) (h':í) (c:Nat),Pr p->(∀ b o,s.heap.get? b=some o->h'.get? b=some o)->h'.get? (s.heap.objs.size + 1)=some (Â5 "list" (p.map λi=>vs.getD i á).toArray c)->Q (.ref (s.heap.objs.size + 1)) { s with heap:=h' }) :
  Ï (Ô P w) A (call (.builtin "sorted") [.ref l]) Q E s:=by
 have h64:=(hk s.heap λ_ _ e _=>e).len;refine Calls.call_function_entry kind_sorted plain_sorted entry_sorted (args_sorted1 _) ?_;unfold Å2.«sorted»;refine À (m:=checkCount "sorted" 1 1 _) (Æ ?_);refine À (S00 ho hc hd ?_ (by rw[Á6];omega));refine À (wpAny_newList ?_ (by rw[Á6];omega))
 have hsz:((s.heap.push (Â5 "list" #[] 0)).update s.heap.objs.size (À3 (·++vs.toArray))).objs.size=s.heap.objs.size + 1:=by rw[í.size_update,size_push']
 have hoL:(((s.heap.push (Â5 "list" #[] 0)).update s.heap.objs.size (À3 (·++vs.toArray))).push (Â5 "list" vs.toArray 0)).get? (s.heap.objs.size + 1)=some (Â5 "list" vs.toArray 0):=by rw[← hsz];exact Î _ rfl
 have keep:∀ b o,s.heap.get? b=some o->(((s.heap.push (Â5 "list" #[] 0)).update s.heap.objs.size (À3 (·++vs.toArray))).push (Â5 "list" vs.toArray 0)).get? b=some o:=λb o q=>by
  have hlt:b < s.heap.objs.size:=Ý q;rw[í.get?_push_ne _ _ _ (by rw[hsz];exact ã (Ê0 hlt)),í.get?_update_ne _ _ _ _ (ã hlt),í.get?_push_ne _ _ _ (ã hlt)];exact q
 show Ï _ _ _ _ _ { s with heap:=((s.heap.push (Â5 "list" #[] 0)).update s.heap.objs.size (À3 (·++vs.toArray))).push (Â5 "list" vs.toArray 0) };rw[hsz];refine À (Æ6 (Ã7 slot_list_sort ⟨_,hoL,rfl⟩ entry_list_sort (w61 hoL (λh' kp=>hk h' λb o e hc=>kp b o (keep b o e) hc) λp h' c hp kp hD=>⟨_,rfl,Æ ⟨_,rfl,h p h' c hp (λb o e=>kp b o (ã (Ê0 (Ý e))) (keep b o e)) hD⟩⟩) (args_list_sort _)))
end
end MySort
namespace L2
open PySem PySem.Spec PyProof.Rows
open MySort (sortedBy)
section
variable {X:Cx}
def L71(X:Cx)(H:Hp)(xs:List V)(Pr:List Nat->Prop):Prop:=∀ (pins:List (Ç × Obj)) (σ:St) (s:Å) (us:List Ã),Inv X pins σ H s->Vals xs us->∃ kd,∀ h',MySort.j11 s.heap h'->MySort.Y31 X.prog X.w X.A.in1.in1 { s with heap:=h' } us Pr kd
theorem w20:f70 X (.builtin "sorted") (λargs H Q=>∃ a xs,∃ Pr:List Nat->Prop,args=[.ref a]/\(SqL X.K H a xs∨SqT X.K H a xs)/\L71 X H xs Pr/\(∀ p,Pr p->∀ i∈p,i < xs.length)/\∀ p l,Pr p->H l=none->Q (.ref l) (upd H l (.lst (p.map λi=>xs.getD i .non)))):=by
 intro pins s σ H args us Q I r h;obtain⟨a,xs,Pr,rfl,hq,hk,hpr,q⟩:=h;obtain⟨u,rfl,rx⟩:=vals1 r;cases rx;have go:∀ (its:List Ã) (o:Obj) (n:Nat),Vals xs its->s.heap.get? a=some o->(o.cls=.type "list"∨o.cls=.type "tuple")->o.data=.seq its.toArray n->Ï (Ô X.prog X.w) X.A (call (.builtin "sorted") [.ref a]) (EP X pins σ Q) X.xe s:=λits o n rv ho hc hd=>by
  obtain⟨kd,kw⟩:=hk pins σ s its I rv;have k0:=kw s.heap λ_ _ e _=>e;refine MySort.j41 ho hc hd kw λp h' c hp kp hD=>?_;have hn:H (s.heap.objs.size + 1)=none:=I.hok.fresh (Ç5 _ 1);have hlen:(p.map λi=>xs.getD i .non).length<=sizeLine:=by rw[Ë,k0.all p hp,Á6];have:=k0.len;omega
  have rv':Vals (p.map λi=>xs.getD i .non) (p.map λi=>its.getD i á):=by
   have hall:=hpr p hp;clear hp hD hlen
   induction p with
   |nil=>exact .nil
   |cons i r ih =>
    refine .cons ?_ (ih λj hj=>hall j (Ì _ hj));have hi:=hall i Ð;obtain⟨u,hu,ru⟩:=rv.get (i:=i) (x:=xs[i]) (by simp[hi])
    have e1:xs.getD i V.non=xs[i]:=by simp[hi]
    have e2:its.getD i á=u:=by rw[Ü,hu];rfl
    show RelV (xs.getD i V.non) (its.getD i á);rw[e1,e2];exact ru
  exact⟨.ref (s.heap.objs.size + 1),_,I.laid (t':=s.toks) kp (Ç5 _ 1) (show h60 X.prog X.w _ h' _ (.lst _) from⟨hlen,_,c,rv',hD⟩),rfl,q p _ hp hn⟩
 rcases hq with hq | hq
 ·obtain⟨its,rv,pl,_⟩:=I.list hq;obtain⟨o,ho,hc,n,hd⟩:=pl.isList;exact go its o n rv ho (.inl hc) hd
 ·obtain⟨its,rv,⟨o,ho,hc,n,hd⟩,_⟩:=I.tuple hq;exact go its o n rv ho (.inr hc) hd
end
inductive D where
 |non | bl (b:Bool) | int (i:Int) | str (x:Str) | tup (ds:List D) | lst (ds:List D) | dct
def D.ty:D->String
 |.non=>"NoneType"|.bl _=>"bool"|.int _=>"int"|.str _=>"str"|.tup _=>"tuple"|.lst _=>"list"|.dct=>"dict"
mutual
def Has(K:Â)(H:Hp):D->V->Prop
 |.non,v=>v=.non|.bl b,v=>v=.bl b|.int i,v=>v=.int i|.str x,v=>v=.str x|.tup ds,v=>∃ a xs,v=.ref a/\SqT K H a xs/\D70 K H ds xs|.lst ds,v=>∃ a xs,v=.ref a/\SqL K H a xs/\D70 K H ds xs|.dct,v=>∃ a kvs,v=.ref a/\H a=some (.dK kvs)
def D70(K:Â)(H:Hp):List D->List V->Prop
 |[],xs=>xs=[]|d::ds,xs=>∃ x r,xs=x::r/\Has K H d x/\D70 K H ds r
end
def isB(T C:String):Bool:=T == C || (T == "bool"&&C == "int")
theorem L81(K:Â)(d:D):∀ C∈["int","bool","tuple","list","str"],PySem.W.kitOne K (.type d.ty) (.type C)=some (isB d.ty C):=by
 intro C hC;simp only[Ä4,Â1,or_false] at hC;rcases hC with rfl | rfl | rfl | rfl | rfl <;> cases d <;> first | rfl | kernel_rfl | decide +kernel
section
variable {X:Cx}
theorem x91:f70 X (.builtin "isinstance") (λxs H Q=>∃ d x C,xs=[x,.ty C]/\Has X.K H d x/\C∈["int","bool","tuple","list","str"]/\Q (.bl (isB d.ty C)) H):=by
 intro pins s σ H xs us Q I r h;obtain⟨d,x,C,rfl,hd,hC,q⟩:=h;obtain⟨u,w',rfl,rx,rt⟩:=vals2 r;cases (show w'=Â4 C from rt);have e:=L81 X.K d C hC;have fin:∀ tk,EP X pins σ Q (.bool (isB d.ty C)) { s with toks:=tk }:=λtk=>⟨.bl _,H,I.tok tk,rfl,q⟩;cases d with
 |non=>unfold Has at hd;subst hd;cases rx;exact Ó1 kitx_none I.kIn È2 e (λz=>nomatch z) fin
 |bl b=>unfold Has at hd;subst hd;cases rx;exact Ó1 kitx_bool I.kIn È2 e (λz=>nomatch z) fin
 |int i=>unfold Has at hd;subst hd;obtain⟨t,rfl⟩:=rx;exact Ó1 kitx_int I.kIn È2 e (λz=>nomatch z) fin
 |str y=>unfold Has at hd;subst hd;obtain⟨t,rfl⟩:=rx;exact Ó1 kitx_str I.kIn È2 e (λz=>nomatch z) fin
 |tup ds =>
  unfold Has at hd;obtain⟨a,ys,rfl,hq,_⟩:=hd;cases rx;obtain⟨its,_,⟨o,h1,h2,_⟩,_⟩:=I.tuple hq;exact Ó1 kitx_tuple I.kIn ⟨o,h1,h2⟩ e (λz=>nomatch z) fin
 |lst ds =>
  unfold Has at hd;obtain⟨a,ys,rfl,hq,_⟩:=hd;cases rx;obtain⟨its,_,pl,_⟩:=I.list hq;obtain⟨o,h1,h2,_⟩:=pl.isList;exact Ó1 kitx_list I.kIn ⟨o,h1,h2⟩ e (λz=>nomatch z) fin
 |dct =>
  unfold Has at hd;obtain⟨a,kvs,rfl,hq⟩:=hd;cases rx;obtain⟨_,_,vs,_,p⟩:=(show h60 X.prog X.w H s.heap a (.dK kvs) from I.hok a _ hq);obtain⟨o,es,ep,h1,h2,_⟩:=p;exact Ó1 kitx_dict I.kIn ⟨o,h1,h2.1⟩ e (λz=>nomatch z) fin
end
def hide(st:Ç)(H:Hp):Hp:=λb=>if b=st then none else H b
theorem e40(st:Ç)(H:Hp):a30 (hide st H) H:=λb o e=>by
 unfold hide at e;split at e
 ·cases e
 ·exact e
theorem A20{st:Ç}{H H':Hp}(e:∀ b o,b≠st->H b=some o->H' b=some o):a30 (hide st H) (hide st H'):=λb o h=>by
 unfold hide at h ⊢;by_cases q:b=st
 ·rw[if_pos q] at h;cases h
 ·rw[if_neg q] at h ⊢;exact e b o q h
theorem G90{st b:Ç}{H:Hp}{o:HO}(h:H b=some o)(n:b≠st):hide st H b=some o:=by
 unfold hide;rw[if_neg n];exact h
end L2
namespace L2
open PySem PySem.Spec PyProof.Rows
theorem y01{σ:St}{H:Hp}{R:Bool->Hp->Prop}(h:R true H):v81 σ H R:=h
section
variable {X:Cx}
theorem Z21(K:Â)(d:D):kitAny K (.type d.ty) [.type "tuple",.type "list"]=some (isB d.ty "tuple" || isB d.ty "list"):=by
 have e1:=L81 K d "tuple" (by simp)
 have e2:=L81 K d "list" (by simp)
 unfold kitAny;rw[e1];cases isB d.ty "tuple" with
 |true=>rfl
 |false =>
  show kitAny K (.type d.ty) [.type "list"]=_;unfold kitAny;rw[e2];cases isB d.ty "list" <;> rfl
theorem j51:f70 X (.builtin "isinstance") (λxs H Q=>∃ d x a,xs=[x,.ref a]/\Has X.K H d x/\SqT X.K H a [.ty "tuple",.ty "list"]/\Q (.bl (isB d.ty "tuple" || isB d.ty "list")) H):=by
 intro pins s σ H xs us Q I r h;obtain⟨d,x,a,rfl,hd,hq,q⟩:=h;obtain⟨u,w',rfl,rx,rt⟩:=vals2 r;cases (show w'=Ä8 a from rt);obtain⟨its,rv,⟨⟨cls,dd,data,sl⟩,ho,hc,n,hdt⟩,_⟩:=I.tuple hq;simp only at hc hdt;subst hc hdt;have eits:its=[.type "tuple",.type "list"]:=by
  cases rv with
  |cons p r=>cases r with
   |cons p2 r2=>cases r2;rw[show _=Â4 "tuple" from p,show _=Â4 "list" from p2]
 subst eits;have e:=Z21 X.K d;have fin:∀ tk,EP X pins σ Q (.bool (isB d.ty "tuple" || isB d.ty "list")) { s with toks:=tk }:=λtk=>⟨.bl _,H,I.tok tk,rfl,q⟩;cases d with
 |non=>unfold Has at hd;subst hd;cases rx;exact Ó0 kitx_none I.kIn È2 ho e (λz=>nomatch z) fin
 |bl b=>unfold Has at hd;subst hd;cases rx;exact Ó0 kitx_bool I.kIn È2 ho e (λz=>nomatch z) fin
 |int i=>unfold Has at hd;subst hd;obtain⟨t,rfl⟩:=rx;exact Ó0 kitx_int I.kIn È2 ho e (λz=>nomatch z) fin
 |str y=>unfold Has at hd;subst hd;obtain⟨t,rfl⟩:=rx;exact Ó0 kitx_str I.kIn È2 ho e (λz=>nomatch z) fin
 |tup ds =>
  unfold Has at hd;obtain⟨b,ys,rfl,hq',_⟩:=hd;cases rx;obtain⟨_,_,⟨o,h1,h2,_⟩,_⟩:=I.tuple hq';exact Ó0 kitx_tuple I.kIn ⟨o,h1,h2⟩ ho e (λz=>nomatch z) fin
 |lst ds =>
  unfold Has at hd;obtain⟨b,ys,rfl,hq',_⟩:=hd;cases rx;obtain⟨_,_,pl,_⟩:=I.list hq';obtain⟨o,h1,h2,_⟩:=pl.isList;exact Ó0 kitx_list I.kIn ⟨o,h1,h2⟩ ho e (λz=>nomatch z) fin
 |dct =>
  unfold Has at hd;obtain⟨b,kvs,rfl,hq'⟩:=hd;cases rx;obtain⟨_,_,vs,_,p⟩:=(show h60 X.prog X.w H s.heap b (.dK kvs) from I.hok b _ hq');obtain⟨o,es,ep,h1,h2,_⟩:=p;exact Ó0 kitx_dict I.kIn ⟨o,h1,h2.1⟩ ho e (λz=>nomatch z) fin
end
open PySem PySem.Spec PyProof.Rows PySem.SeqAt
theorem H00(l b:Ç)(es:Array DictEntry)(n:Nat)(it:Array Ã)(n2:Nat)(dd dd2:Option Ç)(sl sl2:Array (Option Ã)) :
  Meets (Å2.«dict.__ne__» ⟨[.ref l,.ref b],[]⟩) (λ_ R s=>s.heap.get? l=some { cls:=.type "dict",dict:=dd,data:=.dict es n,slots:=sl }/\s.heap.get? b=some { cls:=.type "tuple",dict:=dd2,data:=.seq it n2,slots:=sl2 }/\R (.ok (.ret .notImplemented)) s) :=
 .of_wp λprog w A R s h=>by
  obtain⟨hp,g,d,tk,os⟩:=s;obtain⟨hl,hb,h⟩:=h;have f1:=F.sub_tuple_dict
  wp_walk using Ã0 hl,Ã0 hb
  exact⟨_,rfl,h⟩
theorem H10(l b:Ç)(es:Array DictEntry)(n:Nat)(it:Array Ã)(n2:Nat)(dd dd2:Option Ç)(sl sl2:Array (Option Ã)) :
  Meets (Å2.«tuple.__ne__» ⟨[.ref b,.ref l],[]⟩) (λ_ R s=>s.heap.get? l=some { cls:=.type "dict",dict:=dd,data:=.dict es n,slots:=sl }/\s.heap.get? b=some { cls:=.type "tuple",dict:=dd2,data:=.seq it n2,slots:=sl2 }/\R (.ok (.ret .notImplemented)) s) :=
 .of_wp λprog w A R s h=>by
  obtain⟨hp,g,d,tk,os⟩:=s;obtain⟨hl,hb,h⟩:=h;have f1:=F.sub_dict_tuple
  wp_walk using Ã0 hl,Ã0 hb
  exact⟨_,rfl,h⟩
section
variable {X:Cx}
theorem L91(hu:X.A.units + 64 < Å0):OpR X (ñ .NotEq) (λx y H Q=>∃ a b kvs xs,x=.ref a/\y=.ref b/\H a=some (.dK kvs)/\SqT X.K H b xs/\Q (.bl true) H):=by
 intro pins s σ H x y v u Q I rx ry h;obtain⟨a,b,kvs,xs,rfl,rfl,ha,hb,q⟩:=h;cases rx;cases ry;obtain⟨v2,r2,⟨o2,h2,c2,n2,d2⟩,_⟩:=I.tuple hb;obtain⟨_,_,vs,_,p⟩:=(show h60 X.prog X.w H s.heap a (.dK kvs) from I.hok a _ ha);obtain⟨o1,es,n1,h1,c1,d1,_⟩:=p;have c1:=c1.1;obtain⟨cls,dd,data,sl⟩:=o1;obtain⟨cls2,dd2,data2,sl2⟩:=o2;simp only at c1 d1 c2 d2;subst c1 d1 c2 d2;have hne:a≠b:=λe=>by
  subst e;rw[h1] at h2;simp at h2
 have hu':X.A.units < cLine:=by omega
 refine rc_ne_decline_or (k:=false) ⟨_,h1,rfl⟩ ⟨_,h2,rfl⟩ (-0) F.sub_tuple_dict F.slot_dict_ne F.slot_tuple_ne_refl
  (λ_ hq=>Æ3 F.slot_dict_ne ⟨_,h1,rfl⟩ F.entry_dict_ne (F.args_dict_ne_2 _ _) (H00 a b es n1 v2.toArray n2 dd dd2 sl sl2) ⟨h1,h2,hq⟩)
  (λ_ hq=>Æ3 F.slot_tuple_ne_refl ⟨_,h2,rfl⟩ F.entry_tuple_ne (F.args_tuple_ne_2 _ _) (H10 a b es n1 v2.toArray n2 dd dd2 sl sl2) ⟨h1,h2,hq⟩)
  (λ_ hq=>wpAny_isSame_ref_other hne h1 h2 (by simp) hq) (.inr hu') ⟨.bl true,H,I,rfl,q⟩
end
end L2
namespace L2
open PySem PySem.Spec PyProof.Rows
section
variable {P:à}{w:ö}{A:þ}{E:Ã->Å->Prop}{s:Å}
abbrev eT1(h:í)(l:Ç):Heap:=h.push { cls:=.type "tuple_iterator",data:=.fields #[.ref l,.int 0 0] }
abbrev eT2(h:í)(l:Ç):Heap:=(eT1 h l).push { cls:=.type "enumerate",data:=.fields #[.none,.bool false,.ref h.objs.size,rawInt 0,.none,.none] }
theorem S10(l:Ç)(xs:Array Ã) :
  Meets (Å2.«enumerate.__new__» ⟨[.type "enumerate",.ref l],[]⟩) (λ_ R s=>s.heap.IsTuple l xs/\R (.ok (.ret (.ref (eT1 s.heap l).objs.size))) { s with heap:=eT2 s.heap l }) :=
 .of_wp λP w A R s h=>by
  obtain⟨hp,g,d,tk,os⟩:=s;obtain⟨hl,h⟩:=h;have hsub:=sub_enumerate;have hL1:Ï6 (Å.heap ⟨hp,g,d,tk,os⟩) l xs:=hl
  wp_walk;refine wpAny_stack_any λq=>Æ ?_;split
  ·rename_i c _ _ _ _ _;cases (c == Â4 "enumerate") <;> (wp_walk using È8 hL1) <;> exact⟨_,rfl,h⟩
  ·wp_walk using È8 hL1
   exact⟨_,rfl,h⟩
theorem d51(hl:s.heap.IsTuple l xs)
  (h:∀ h',IsEnum h' (s.heap.objs.size + 1) s.heap.objs.size 0 .none->h'.IsTupleIter s.heap.objs.size l 0->(∀ c o,s.heap.get? c=some o->h'.get? c=some o)->Q (.ref (s.heap.objs.size + 1)) { s with heap:=h' }) :
  Ï (Ô P w) A (call (.type "enumerate") [.ref l]) Q E s:=by
 refine callType_new F.called_enumerate (-0) (F.typeCall_enumerate_1 _) (F.newCall_enumerate_1 _) (λobj=>F.args_object_init_2 obj _) F.entry_enumerate_new (S10 l xs) ⟨hl,?_⟩
 have n1:(eT1 s.heap l).objs.size=s.heap.objs.size + 1:=Ç4 ..;have g2:(eT2 s.heap l).get? (eT1 s.heap l).objs.size=some _:=Î _ rfl;have g1:(eT2 s.heap l).get? s.heap.objs.size=some _:=Ä _ (Î _ rfl);show _/\_;rw[n1] at g2;rw[n1];exact⟨⟨_,g2,rfl⟩,h _ g2 ⟨_,g1,rfl,rfl⟩ λc o q=>Ä _ (Ä _ q)⟩
theorem j61(hh:A.handled=none){it l:Ç}{xs:Array Ã}(n:l≠it):Draws P w A it [it,l] xs.size (λi x=>xs[i]?=some x) (λi h=>h.IsTupleIter it l i/\h.IsTuple l xs) where
 live:=λi h q=>by obtain⟨⟨o,e,_⟩,_⟩:=q;exact⟨o,e⟩
 frame:=λi h h' q k=>by
  obtain⟨⟨o,e,r⟩,⟨o',e',r'⟩⟩:=q;exact⟨⟨o,k it (by simp) _ e,r⟩,⟨o',k l (by simp) _ e',r'⟩⟩
 item:=λi s Q E hi q k=>n80 q.1 q.2 (x:=xs[i]) (by simp[hi]) λh' h1 h2=>k _ h' s.toks (by simp[hi]) ⟨h1,q.2.extBut h2.extBut n⟩ h2
 done:=λs Q E q k=>k20 hh q.1 q.2 (by simp) λh' e h1 h2=>k h' e h1 h2
end
theorem D91{P:à}{w:ö}{A:þ}(b:Bool)(hh:A.handled=none){it l:Ç}{xs:Array Ã}(n:l≠it):Draws P w A it [it,l] xs.size (λi x=>xs[i]?=some x) (λi h=>M80 b h it l i/\w01 b h l xs):=match b with
 |true=>Draws.list hh it l n xs|false=>j61 hh n
def Ite(b:Bool)(K:Â)(a:Ç):It :=
 ⟨λi H=>∃ xs x,SqB b K H a xs/\xs[i]?=some x,
  λi H v H'=>∃ T,v=.ref T/\H T=none/\∀ xs x,SqB b K H a xs->xs[i]?=some x->H'=upd H T (.tup [.int i,x]),
  λi H=>∃ xs,SqB b K H a xs/\xs.length=i⟩
theorem j71{P:à}{w:ö}{K:Â}{es:List Í}{ek:Nat}{ep:Pos}{a e it:Ç}{b:Bool}(h1:e≠it)(h2:a≠e)(h3:a≠it) :
  Turn P w K (.Tuple es ek ep) (Ite b K a) [e,it] e (λi h=>(∃ old,IsEnum h e it i old)/\M80 b h it a i) where
 mem:=by simp
 obj:=λi h st c hc=>by
  obtain⟨⟨old,he⟩,st⟩:=st;obtain⟨o1,g1,d1,_⟩:=st.obj;simp only[Ä4,Â1,or_false] at hc;rcases hc with rfl | rfl
  ·exact⟨_,he,λv e=>by cases e⟩
  ·exact⟨_,g1,d1⟩
 keep:=λi h h' st k=>by
  obtain⟨⟨old,he⟩,st⟩:=st;obtain⟨o1,g1,_,r1⟩:=st.obj;exact⟨⟨old,k e (by simp) _ he⟩,r1 h' (k it (by simp) _ g1)⟩
 item:=by
  intro X hP hw hK hc i pins s σ H E I hf st hg;subst hP hw hK;obtain⟨xs,x,hq,hx⟩:=hg;obtain⟨v1,rv,p1,_,z1⟩:=I.w11 hq;obtain⟨u,hu,ru⟩:=rv.get hx;obtain⟨⟨old,he⟩,hi⟩:=st;have hl:i < v1.toArray.size:=by simpa using (Þ.mp hu).1
  refine wpAny_pyNext_enum_itemD (D91 (A:=X.A.in1) b (by exact I.ok.hd hc) h3) he ⟨hi,p1⟩ hl h1 (by simp[h1,h2.symm]) λy g1 tk hy ge gs gT sz kp=>⟨_,rfl,?_⟩
  have hy':v1[i]?=some y:=by simpa using hy
  rw[hu] at hy';cases hy';refine wpAny_letOwnedTupleGo_enum (s:={ s with heap:=g1,toks:=tk + 1 }) ge λg2 ge2 sb=>?_;have hT:H s.heap.objs.size=none:=I.hok.fresh (È _);have kall:∀ c o,c ∉ [e,it]->s.heap.get? c=some o->g2.get? c=some o:=λc o hc q=>by
   simp only[Ä4,Â1,or_false,not_or] at hc;exact sb.extBut _ _ hc.1 (kp c o hc.1 hc.2 q)
  have I2:Inv X pins σ H { s with heap:=g2,toks:=tk + 1 }:=I.G10 (t':=tk + 1) hf kall;have fT:c21 X pins H s.heap.objs.size:=I.f51 (È _) hT;have gT2:g2.get? s.heap.objs.size=some { cls:=.type "tuple",data:=.seq #[.int i tk,u] }:=sb.extBut _ _ (λq=>À6 _ (by have:=Ý he;rw[← q] at this;exact this)) gT
  have I3:Inv X pins σ (upd H s.heap.objs.size (.tup [.int i,x])) { s with heap:=g2,toks:=tk + 1 }:=I2.v71 fT I.sz (I2.hok.D51 hT (its:=[.int i tk,u]) (.cons ⟨_,rfl⟩ (.cons ru .nil)) (by show 2<=sizeLine;rw[Á6];decide) ⟨_,gT2,rfl,_,rfl⟩)
  refine⟨.ref s.heap.objs.size,_,I3,rfl,⟨_,rfl,hT,λxs' x' e1 e2=>?_⟩,⟨⟨_,ge2⟩,by obtain⟨o,q1,_,q2⟩:=gs.1.obj;exact q2 _ (sb.extBut _ _ h1.symm q1)⟩,λc hc=>?_⟩
  ·rw[z1 _ e1] at e2;rw[hx] at e2;cases e2;rfl
  ·rw[a60]
   ·exact(hf c hc).1
   ·intro q;simp only[Ä4,Â1,or_false] at hc;rcases hc with hc | hc
    ·exact À6 _ (by have:=Ý he;rw[← hc,q] at this;exact this)
    ·obtain⟨o,ho,_⟩:=M80.obj hi;exact À6 _ (by have:=Ý ho;rw[← hc,q] at this;exact this)
 done:=by
  intro X hP hw hK hc i pins s σ H E I hf st hg;subst hP hw hK;obtain⟨xs,hq,rfl⟩:=hg;obtain⟨v1,rv,p1,_,z1⟩:=I.w11 hq;obtain⟨⟨old,he⟩,hi⟩:=st;refine wpAny_pyNext_enum_endD (D91 (A:=X.A.in1) (xs:=v1.toArray) b (by exact I.ok.hd hc) h3) he ⟨by rw[show v1.toArray.size=xs.length by simpa using rv.length.symm];exact hi,p1⟩ λg kp=>⟨rfl,I.G10 (t':=s.toks) hf λc o hcn q=>?_⟩
  simp only[Ä4,Â1,or_false,not_or] at hcn;exact kp c o hcn.2 q
 self:=λ_ _ _ _ _ st h=>by obtain⟨⟨_,he⟩,_⟩:=st;exact wpAny_pyIter_enum he h
def p22(K:Â)(ta:TA):TI:=λσ H R=>ta σ H λvs H1=>∃ b a,vs=[.ref a]/\(∃ xs,SqB b K H1 a xs)/\R (Ite b K a) H1
theorem d61(hl:w01 b s.heap l xs)
  (h:∀ h',IsEnum h' (s.heap.objs.size + 1) s.heap.objs.size 0 .none->M80 b h' s.heap.objs.size l 0->(∀ c o,s.heap.get? c=some o->h'.get? c=some o)->Q (.ref (s.heap.objs.size + 1)) { s with heap:=h' }) :
  Ï (Ô P w) A (call (.type "enumerate") [.ref l]) Q E s:=match b,hl,h with
 |true,hl,h=>call_enumerate_list hl λh' a b _ c=>h h' a b c|false,hl,h=>d51 hl h
theorem j81:ë "enumerate"=some (.type "enumerate"):=by decide +kernel
theorem M01{X:Cx}{a:Í}{es:List Í}{ek:Nat}{ep:Pos}{ta:TA}{p pos:Pos}(hg:Gl X "enumerate")(hm:X.mg "enumerate"=none)(ha:PA X [a] ta)(hs:ù [a] X.env=[(false,eval a X.env)]:=by rfl) :
  PI X (.Tuple es ek ep) (.Call (.Name "enumerate" p) [a] [] pos) (p22 X.K ta):=by
 intro pins s σ H R I h;refine Call_ (r40 I hg hm j81 (ÿ (thn (ha pos pins s σ H _ I h) λus s1 ⟨vs,H1,I1,r1,q1⟩=>?_) (by rw[hs];rfl) (by rfl)))
 obtain⟨b,l1,e,⟨xs,hq1⟩,q⟩:=q1;subst e;obtain⟨u,rfl,r⟩:=vals1 r1;cases r;obtain⟨v1,rv1,p1,a1,_⟩:=I1.w11 hq1;refine d61 p1 λh' he h1 kp=>wpAny_pyIter_enum (s:={ s1 with heap:=h' }) he ?_;refine⟨_,[s1.heap.objs.size + 1,s1.heap.objs.size],_,_,H1,rfl,I1.kept (t':=s1.toks) kp,j71 (Nat.succ_ne_self _) (ã (Ê0 a1)) (ã a1),⟨⟨_,he⟩,h1⟩,λc hc=>?_,q⟩;have hc':s1.heap.objs.size<=c:=by
  simp only[Ä4,Â1,or_false] at hc;rcases hc with rfl | rfl
  ·exact Ç5 _ 1
  ·exact È _
 exact I1.f51 hc' (I1.hok.fresh hc')
end L2
namespace HT
open PySem PySem.W PyProof.Rows
set_option maxRecDepth 100000
section
variable {P:à}{w:ö}{A:þ}{E:Ã->Å->Prop}{s:Å}
theorem H20{a b c:Int}{n:Nat}(hh:A.handled=none)(hr:Ò1 s.heap r a b c t u v)(hs:Î2 a b c=true)(hn:Â2 a b c=n)(hl:n<=2 ^ 24)
  (hQ:∀ (h':í) (tk:Nat) (acc:Array Ã),(∀ b o,s.heap.get? b=some o->h'.get? b=some o)->s.heap.objs.size<=h'.objs.size->ItemsOf (λi v=>∃ t,v=.int (a + i * c) t) acc n->Q acc.toList { s with heap:=h',toks:=tk }):Ï (Ô P w) A (collect (.ref r)) Q E s:=by
 unfold collect;refine À (wpAny_runValue (Ì2 PySem.F.entry_proto_collect ?_));rw[Ð9 PySem.F.plain_proto_collect _];show Ï _ A.in1 (newList [] >>= λl=>again (.builtin "list.__iadd__" ⟨[l,.ref r],[]⟩)) _ _ s;refine À (å (Æ ⟨plainId_quiet Ú1 _,Ì2 PySem.F.entry_list_iadd ?_⟩));rw[Ð9 Ú1 _];show Ï _ A.in1 (É3 (.ref s.heap.objs.size) (.ref r) (.ref s.heap.objs.size)) _ _ { s with heap:=s.heap.push (Â5 "list" #[] 0) };have hS:(s.heap.push (Â5 "list" #[] 0)).get? s.heap.objs.size=some { cls:=.type "list",data:=.seq #[] 0 }:=Î _ rfl;refine Ã8 (wpAny_extend_range (A:=A) (s:={ s with heap:=s.heap.push (Â5 "list" #[] 0) }) (R:=λx s'=>x=.ok (.ret (.ref s.heap.objs.size))/\∃ h' tk acc c',s'={ s with heap:=h',toks:=tk }/\(∀ b o,s.heap.get? b=some o->h'.get? b=some o)/\h'.get? s.heap.objs.size=some { cls:=.type "list",dict:=none,data:=.seq acc c',slots:=#[] }/\ItemsOf (λi v=>∃ t,v=.int (a + i * c) t) acc n) hh (Ä _ hr) hs hn hl _ (.ref s.heap.objs.size) 0 hS λh' tk acc c' hk hS' hi=>⟨rfl,h',tk,acc,c',rfl,λb o e=>hk b o (ã (Ý e)) (Ä _ e),hS',hi⟩) (λfin s' h=>?_) λe s' h=>?_
 ·have go:∀ s',(∃ h' tk acc c',s'={ s with heap:=h',toks:=tk }/\(∀ b o,s.heap.get? b=some o->h'.get? b=some o)/\h'.get? s.heap.objs.size=some { cls:=.type "list",dict:=none,data:=.seq acc c',slots:=#[] }/\ItemsOf (λi v=>∃ t,v=.int (a + i * c) t) acc n)->Ï (Ô P w) A (match Ä8 s.heap.objs.size with
   |Ä8 a=>do
    match (← load a).data with
     |Data.seq xs _=>pure xs.toList|_=>unsupported "internal:collect"
   |_=>unsupported "internal:collect") Q E s':=λs' ⟨h',tk,acc,c',e,hk,hS',hi⟩=>by
   subst e;show Ï _ A (load s.heap.objs.size >>= _) _ _ _;exact À (wpAny_load hS' (Æ (hQ h' tk acc hk (Ä1 (Ý hS')) hi)))
  cases fin with
  |done f =>
   obtain⟨e,h⟩:=h;cases e;exact go _ h
  |again c'=>exact⟨h.1,Ñ9 h.2 λx s'' hx=>by obtain⟨rfl,hx⟩:=hx;exact go _ hx⟩
 ·exact absurd h.1 (by simp)
open AutoSeq1 (wpAny_loadPart')
theorem A30{a b c:Int}{n:Nat}(hh:A.handled=none)(hr:Ò1 s.heap r a b c t u v)(hs:Î2 a b c=true)(hn:Â2 a b c=n)(hl:n<=200000)
  (hQ:∀ (h':í) (tk:Nat) (acc:Array Ã),(∀ b o,s.heap.get? b=some o->h'.get? b=some o)->s.heap.objs.size<=h'.objs.size->ItemsOf (λi v=>∃ t,v=.int (a + i * c) t) acc n->Q (.ref h'.objs.size) { s with heap:=h'.push { cls:=.type "tuple",data:=.seq acc },toks:=tk }) :
  Ù2 (Ô P w) A (.call (.builtin "tuple.__new__") ⟨[.type "tuple",.ref r],[]⟩) (wants Q E) s:=by
 refine codeAny_of_tree ?_;show Ï _ A.in1 (do checkBuiltinCall "tuple.__new__" ⟨[.type "tuple",.ref r],[]⟩;again (.builtin "tuple.__new__" ⟨[.type "tuple",.ref r],[]⟩)) _ _ s;refine À (wpAny_of_eq (PySem.F.newCall_tuple_1 _) (Æ ⟨plainId_quiet Ú0 _,Ì2 PySem.F.entry_tuple_new ?_⟩));rw[Ð9 Ú0 _];have k1:=sub_tuple_self;have k2:=init_tuple_lookup;have k3:=madeHere_tuple;have k4:s.TypeIs (.ref r) "range":=⟨_,hr,rfl⟩
 wp_walk using É5 k4,H20 (n:=n) (show A.in1.handled=none from hh) hr hs hn ∅
 intro h' tk acc hk hz hi;show Ï _ _ (Ä7 acc.toList.toArray >>= λv=>ret v) _ _ _;unfold Ä7;rw[Ì7];refine À (å (Æ (hQ h' tk acc hk hz hi)) (by show acc.size<=_;rw[hi.1,Á6];omega))
theorem tuple_range{a b c:Int}{n:Nat}(hh:A.handled=none)(hr:Ò1 s.heap r a b c t u v)(hs:Î2 a b c=true)(hn:Â2 a b c=n)(hl:n<=200000)
  (hQ:∀ (h':í) (tk:Nat) (acc:Array Ã),(∀ b o,s.heap.get? b=some o->h'.get? b=some o)->s.heap.objs.size<=h'.objs.size->ItemsOf (λi v=>∃ t,v=.int (a + i * c) t) acc n->Q (.ref h'.objs.size) { s with heap:=h'.push { cls:=.type "tuple",data:=.seq acc },toks:=tk }):Ï (Ô P w) A (call (.type "tuple") [.ref r]) Q E s:=by
 refine callType_codes (Q₁:=λobj s₁=>s₁.TypeIs obj "tuple"/\Q obj s₁) Ï9 (PySem.F.typeCall_tuple_1 _) PySem.F.entry_object_init (A30 hh hr hs hn hl λh' tk acc hk hz hi=>⟨⟨_,Î _ rfl,rfl⟩,hQ h' tk acc hk hz hi⟩) λobj s₁ h₁=>?_;exact⟨h₁.1,PySem.F.args_object_init_2 obj _,object_init_meets Ï9.init.lookup Ï9.made (-0) P w A.in1 _ s₁ ⟨h₁.1,rfl,h₁.2⟩⟩
end
end HT
namespace L2
open PySem PySem.Spec PyProof.Rows
theorem h60.there(x:h60 P w H h a o):∃ u,h.get? a=some u:=by
 cases o with
 |lst xs=>obtain⟨_,_,_,_,e⟩:=x;exact⟨_,e⟩
 |tup xs=>obtain⟨_,_,_,o,e,_⟩:=x;exact⟨_,e⟩
 |dK kvs=>obtain⟨_,_,_,_,o,_,_,e,_⟩:=x;exact⟨_,e⟩
 |dT kvs=>obtain⟨_,_,_,_,o,_,_,e,_⟩:=x;exact⟨_,e⟩
 |set S n=>obtain⟨o,_,_,_,e,_⟩:=x;exact⟨_,e⟩
 |ins C dx fs=>obtain⟨_,_,_,e,_⟩:=x;exact⟨_,e⟩
 |own y=>obtain⟨_,e⟩:=x;exact⟨_,e⟩
 |xd fs=>obtain⟨_,⟨_,_,_,e,_⟩,_⟩:=x;exact⟨_,e⟩
 |rng lo hi=>obtain⟨_,_,_,e⟩:=x;exact⟨_,e⟩
 |frz ob u=>obtain⟨e,_⟩:=x;exact⟨_,e⟩
 |tbl ps=>exact⟨_,(show h.get? a=some _ from x)⟩|met f y=>exact⟨_,(show h.get? a=some _ from x)⟩|ext φ=>obtain⟨_,⟨_,e⟩,_⟩:=x;exact⟨_,e⟩
def InB(B:í)(fs:List Ç)(H':Hp)(h h':í):Prop:=∀ b u,h'.get? b=some u->b ∉ fs->((∃ o,h.get? b=some o)∨H' b≠none)->B.get? b=some u
def CX1(P:à)(w:ö):CXT:=λouter H s E e s'=>∃ (a:Ç) (cls a0:Ã) (H':Hp) (B:í),e=.ref a/\s'.os=s.os/\Ò2 s'.gens/\Un (frs outer) [] H H' s.heap s'.heap/\HOk P w H' s'.heap /\
 í.FlyingW B outer a cls a0 s'.heap/\H' a=none/\InB B (frs outer) H' s.heap s'.heap/\E cls (some a) H'
section
variable {X:Cx}{pins:List (Ç × Obj)}{σ:St}{H H':Hp}{s s':Å}{B h'':í}{a:Ç}{cls a0:Ã}{E:XK}
theorem j91(hS:X.stack=X.env::X.outer)(hx:X.ex=[])(hf:X.env.frame=some X.env.locals)(I:Inv X pins σ H s)(os:s'.os=s.os)(bare:Ò2 s'.gens)(un:Un (frs X.stack) [] H H' s.heap s'.heap)(hok:HOk X.prog X.w H' s'.heap)
  (bB:InB B (frs X.stack) H' s.heap s'.heap) (na:H' a=none) (fl:í.FlyingW B X.outer a cls a0 h'') (sm:s'.heap.UpToSlots h'') (he:E cls (some a) H'):CX1 X.prog X.w X.outer X.H₀ X.s₀ E (.ref a) { s' with heap:=h'' }:=by
 have hfs:frs X.stack=X.env.locals::frs X.outer:=by rw[hS];unfold frs;rw[À5,hf]
 have U1:=I.base;rw[hx] at U1;have U:Un (frs X.stack) [] X.H₀ H' X.s₀.heap s'.heap:=(U1.mono (λb hb=>by rw[hfs];exact Ì _ hb) λb hb=>hb).trans un
 have nL:∀ b o,X.s₀.heap.get? b=some o->b ∉ frs X.outer->b ∉ frs X.stack:=λb o e hn hm=>by
  rw[hfs] at hm;rcases ü.mp hm with z | z
  ·exact absurd (Ý e) (by rw[z];exact Ô7.mpr I.ok.above)
  ·exact hn z
 have frN:∀ b∈frs X.stack,H' b=none:=λb hb=>by
  obtain⟨_,o,ho,_⟩:=I.stack.mem hb;exact un.free b o ho (I.Q90 b hb) (by simp)
 have old:∀ b o,X.s₀.heap.get? b=some o->b ∉ frs X.outer->∃ u,s'.heap.get? b=some u/\B.get? b=some u:=λb o e hn=>by
  obtain⟨o1,e1⟩:=U1.there b o e (by simp)
  obtain⟨o2,e2⟩:=un.there b o1 e1 (by simp)
  exact⟨o2,e2,bB b o2 e2 (nL b o e hn) (.inl ⟨o1,e1⟩)⟩
 have trk:∀ b,H' b≠none->∃ u,s'.heap.get? b=some u/\B.get? b=some u:=λb hb=>by
  obtain⟨o,e⟩:=Ø8.mp hb;obtain⟨u,eu⟩:=(hok b o e).there;exact⟨u,eu,bB b u eu (λhm=>by rw[frN b hm] at e;cases e) (.inr hb)⟩
 refine⟨a,cls,a0,H',B,rfl,os.trans I.os,bare,⟨λb o e n hb _=>?_,λb o e n hb _=>?_,λb o e n hb=>U.free b o e n hb,λb o e _=>?_,U.tups,U.frzs,U.tbls⟩,λc o e=>?_,fl,na,λb u e hn hor=>?_,he⟩
 ·obtain⟨u,e1,e2⟩:=old b o e hb;have e3:=U.keep b o e n (nL b o e hb) (by simp)
  rw[e1] at e3;cases e3;exact fl.1 b _ e2
 ·obtain⟨sl,e1⟩:=U.slot b o e n (by rw[hfs];exact Ì _ hb) (by simp)
  obtain⟨_,o',ho',hd⟩:=I.ok.u01.mem hb;rw[e] at ho';cases ho';obtain⟨sl',e2⟩:=sm b _ e1 hd;exact⟨sl',e2⟩
 ·by_cases hb:b∈frs X.outer
  ·obtain⟨_,o',ho',_⟩:=fl.2.2.1.mem hb;exact⟨o',ho'⟩
  ·obtain⟨u,_,e2⟩:=old b o e hb;exact⟨u,fl.1 b _ e2⟩
 ·refine(hok c o e).u31 (λb u hb q=>?_) (λ_ q=>q) λ_ _ q=>q;have hbn:H' b≠none:=by
   rcases hb with rfl | hb
   ·rw[e];exact λz=>nomatch z
   ·rw[hb];exact λz=>nomatch z
  obtain⟨u',e1,e2⟩:=trk b hbn;rw[q] at e1;cases e1;exact fl.1 b _ e2
 ·have:∃ u',B.get? b=some u':=by
   rcases hor with ⟨o,ho⟩ | hor
   ·obtain⟨u',_,e2⟩:=old b o ho hn;exact⟨u',e2⟩
   ·obtain⟨u',_,e2⟩:=trk b hor;exact⟨u',e2⟩
  obtain⟨u',e2⟩:=this;have e3:=fl.1 b _ e2;rw[e] at e3;cases e3;exact e2
end
section
variable {P:à}{w:ö}{K:Â}{mg:Str->Option Ã}{base:í}{N:List Str}{qual:Str}{scope:À9}{f:Ç}{cd:Ã}{A:þ}{outer:List Env}{s₀:Å}{H₀:Hp}{E:XK}
theorem k01(I:Inv (M10 (CX1 P w) P w K mg base N qual scope f cd A outer s₀ H₀ E) pins σ H s)(hx:í.MadeExcOf s.heap h' e cls vs)(he:E cls (some e) H) :
  (M10 (CX1 P w) P w K mg base N qual scope f cd A outer s₀ H₀ E).xe (.ref e) { s with heap:=h' }:=by
 have hin:∀ env∈(M10 (CX1 P w) P w K mg base N qual scope f cd A outer s₀ H₀ E).stack,∀ a,env.frame=some a->a∈frs (M10 (CX1 P w) P w K mg base N qual scope f cd A outer s₀ H₀ E).stack:=λenv he a ha=>Ó6.mpr ⟨env,he,ha⟩;have kB:(hideAll s.heap (frs (M10 (CX1 P w) P w K mg base N qual scope f cd A outer s₀ H₀ E).stack)).StaysIn s.heap:=λb o q=>of_hideAll _ q;show Ï _ _ (leaving _ _) _ _ _;refine wpAny_leaves_madeW (base:=hideAll s.heap (frs (M10 (CX1 P w) P w K mg base N qual scope f cd A outer s₀ H₀ E).stack)) (h:=s.heap) I.ok.frames rfl kB (PySem.W.funFrames_hide I.stack hin) hx λh'' t fl _ _ sm=>?_;have na:H e=none:=by
  cases z:H e with
  |none=>rfl|some o=>obtain⟨u,eu⟩:=(I.hok e o z).there;rw[hx.new] at eu;cases eu
 refine j91 (X:=M10 (CX1 P w) P w K mg base N qual scope f cd A outer s₀ H₀ E) (s':={ s with heap:=h' }) rfl rfl rfl I rfl I.bare (Un.kept hx.keeps) (I.hok.kept hx.keeps) (λb u q hn hor=>?_) na fl sm he;have:∃ o,s.heap.get? b=some o:=by
  rcases hor with hor | hor
  ·exact hor
  ·obtain⟨o,z⟩:=Ø8.mp hor;exact(I.hok b o z).there
 obtain⟨o,ho⟩:=this;have:=hx.keeps b o ho;have q':h'.get? b=some u:=q;rw[this] at q';cases q';exact hideAll_get _ ho hn
theorem p32:Passes (CX1 P w) (M10 (CX1 P w) P w K mg base N qual scope f cd A outer s₀ H₀ E) E:=by
 intro pins σ H s e s' I h;obtain⟨a,cls,a0,H',B,rfl,os,bare,un,hok,fl,na,bB,he⟩:=h;show Ï _ _ (leaving _ _) _ _ _;refine wpAny_leaves_onW I.ok.frames rfl fl λh'' fl' sm=>?_;exact j91 (X:=M10 (CX1 P w) P w K mg base N qual scope f cd A outer s₀ H₀ E) (s':=s') rfl rfl rfl I os bare un hok bB na fl' sm he
end
theorem M11{K:Â}{h:í}{C:Ç}{bmB:List Ã}{newId:String}(KX:K.In h)(hq:Ì3 K C bmB newId=true) :
  ∃ bm N nm q bs hdct sn sub ab col dd k0 k1 k2 k3 k5 mN,h.get? C=some (excClassObj nm q C N bs bm hdct sn sub ab col dd k0 k1 k2 k3 k5 newId)/\h.Ns N mN/\mN "__init__"=none/\OwnTail h bmB bm:=by
 unfold Ì3 at hq;split at hq
 case h_2=>cases hq
 case h_1 dd cd sl ho =>
  split at hq
  case h_2=>cases hq
  case h_1 C' bm k0 k1 k2 k3 n k5 hm hs =>
   simp only[Á,beq_iff_eq,ô] at hq;obtain⟨⟨⟨⟨⟨z1,z2⟩,hdel⟩,ht⟩,hok⟩,hni⟩:=hq;subst z1 z2;cases cd with
   |mk nm bs mro ns qn hd sn sub ab col del =>
    dsimp only at hm hdel hok hni;subst hm hdel;have esl:sl=#[k0,k1,k2,k3,some (.builtin n),k5]:=by cases sl with | mk l=>simp only at hs;rw[hs]
    subst esl;refine⟨bm,ns,nm,qn,bs,hd,sn,sub,ab,col,dd,k0,k1,k2,k3,k5,h.nsMap ns,KX _ _ ho,?_,PySem.W.nsMap_none_of_in KX hok hni,PySem.W.tail_of_in KX ht⟩;exact .of_isNs (PySem.W.isNs_of_in KX hok)
def H30(X:Cx)(E:XK):Prop:=∀ (pins:List (Ç × Obj)) (σ:St) (H:Hp) (s:Å) (h':í) (e:Ç) (cls:Ã) (vs:List Ã),Inv X pins σ H s->í.MadeExcOf s.heap h' e cls vs->E cls (some e) H->X.xe (.ref e) { s with heap:=h' }
theorem k21{P:à}{w:ö}{K:Â}{mg:Str->Option Ã}{base:í}{N:List Str}{qual:Str}{scope:À9}{f:Ç}{cd:Ã}{A:þ}{outer:List Env}{s₀:Å}{H₀:Hp}{E:XK} :
  H30 (M10 (CX1 P w) P w K mg base N qual scope f cd A outer s₀ H₀ E) E:=λ_ _ _ _ _ _ _ _ I hx he=>k01 I hx he
def Z31(E:XK)(C:Ç)(t:TA):TS:=λ_ σ H=>t σ H λvs H1=>vs.length<=sizeLine/\∀ e,H1 e=none->E (.ref C) (some e) H1
section
variable {X:Cx}{x:Str}{C:Ç}{E:XK}{e₀:Í}{rest:List Í}{t:TA}{np cpos pos:Pos}
theorem y11(hE:H30 X E)(hc:X.calm=true)(hg:Gl X x)(hm:X.mg x=some (.ref C))(hq:Ì3 X.K C [.type "ValueError",.type "Exception",.type "BaseException",.type "object"] "ValueError.__new__"=true)(ha:PA X (e₀::rest) t)
  (hdb:(x == ("__debug__":Str))=false:=by decide) (he:ù (e₀::rest) X.env=(false,eval e₀ X.env)::ù rest X.env:=by rfl) (hpl:(Ò0 cpos (ù rest X.env)).any (·.1)=false:=by rfl) :
  PS X (.Raise (some (.Call (.Name x np) (e₀::rest) [] cpos)) none pos) (Z31 E C t):=by
 intro pins s σ H D I h;obtain⟨bm,N,nm,q,bs,hdct,sn,sub,ab,col,dd,k0,k1,k2,k3,k5,mN,hC,hN,hni,T⟩:=M11 I.ok.mod.kin hq;refine wpAny_Raise_call_subT (C:=C) (nm:=nm) (q:=q) (N:=N) (bs:=bs) (bm:=bm) (hdct:=hdct) (sn:=sn) (sub:=sub) (ab:=ab) (col:=col) (dd:=dd) (k0:=k0) (k1:=k1) (k2:=k2) (k3:=k3) (k5:=k5)
  Ö9 (mN:=mN) (T.hasType Ö9.hasBase) (I.ok.hd hc) (by rw[he];exact hpl) hni (R00 I hg hm ⟨rfl,?_⟩ hdb)
 have k:=ha cpos pins s σ H _ I h;rw[he] at k ⊢;refine Ü9 (thn k λus s2 ⟨vs,H2,I2,r,z,q⟩=>⟨rfl,by show us.length<=_;rw[← r.length];exact z,I2.bk _ _ hC,hN.keeps I2.bk,T.keeps I2.bk,λh' e hx=>?_⟩)
 refine hE pins σ H2 s2 h' e _ us I2 hx (q e ?_);cases z:H2 e with
 |none=>rfl|some o=>obtain⟨u,eu⟩:=(I2.hok e o z).there;rw[hx.new] at eu;cases eu
end
open PySem PySem.Spec PyProof.Rows PySem.W PySem.Builtin PySem.Builtin.ObjectAttr PySem.Builtin.Getset_descriptor
end L2
namespace L2
open PySem PySem.Spec PyProof.Rows
def recAt(c:Ç)(qual:Str):í->Prop:=λh=>h.CodeRec (.ref c) qual
def Tab(H:Hp)(P:Ç)(qual:Str):Prop:=∃ ps:Array Ã,H P=some (.tbl ps)/\TriplesOk ps.toList/\∀ pos c,codeAmong pos ps.toList=some c->∃ c',c=.ref c'/\H c'=some (.ext (recAt c' qual))
def BMain(mg:Str->Option Ã)(h:í):Prop:=∃ bm ob,mg "__builtins__"=some (.ref bm)/\bm≠Ö6/\h.get? bm=some ob/\ob.cls=.type "module"/\ob.dict=some Ö6/\ob.data=.plain
theorem Z41{P:à}{w:ö}{X:Cx}:Passes (CX1 P w) X (λ_ _ _=>False):=λ_ _ _ _ _ _ _ h=>by
 obtain⟨_,_,_,_,_,_,_,_,_,_,_,_,_,e⟩:=h;exact e.elim
theorem Tab.same{H H':Hp}{P:Ç}{q:Str}(t:Tab H P q)(s:a30 H H'):Tab H' P q:=by
 obtain⟨ps,e,tr,h⟩:=t;refine⟨ps,s _ _ e,tr,λpos c hc=>?_⟩;obtain⟨c',e1,e2⟩:=h pos c hc;exact⟨c',e1,s _ _ e2⟩
end L2
namespace Q
open PySem L2
abbrev Z:=Option (Int × Bool)
inductive S where
 |d (x:D) | fr (xs:List D) | z
inductive R (α:Type) where
 |ok (a:α) (z:Z) | er (c:Nat) (z:Z)
abbrev M(α:Type):=Z->Option (R α)
def M.ret{α:Type}(a:α):M α:=λz=>some (.ok a z)
def M.no{α:Type}:M α:=λ_=>none
def M.of{α:Type}:Option α->M α
 |some a=>M.ret a|none=>M.no
def M.bind{α β:Type}(m:M α)(f:α->M β):M β:=λz=>match m z with
 |some (.ok a z1)=>f a z1|some (.er c z1)=>some (.er c z1)|none=>none
def M.calm{α:Type}(m:M α):M α:=λz=>match m z with
 |some (.ok a z1)=>some (.ok a z1)|_=>none
abbrev Env:=List (Option S)
def pl:List S->Option D
 |[.d x]=>some x|[.fr xs]=>some (.lst xs)|_=>none
def one:List S->Option S
 |[s]=>some s|_=>none
def plS:S->S
 |.fr xs=>.d (.lst xs)|s=>s
def plD:S->Option D
 |.d x=>some x|.fr xs=>some (.lst xs)|_=>none
def plA:List S->Option (List D)
 |[]=>some []|.d x::r=>(plA r).map (x::·)|.fr xs::r=>(plA r).map (.lst xs::·)|_::_=>none
inductive Bi where
 |add | sub | mul | fdiv | mod | pow
inductive Cm where
 |eq | ne | lt | le | gt | ge | is | mem
inductive Bf where
 |len | sorted | tuple | list | sum | min | max | all | int | sset | j92
inductive Ty where
 |int | bool | tuple | list | str | seq
inductive Pat where
 |v (i:Nat) | tup (ps:Pat) | nil | cons (p r:Pat)
inductive It where
 |seq | rng1 | rng2 | zip | enum
inductive Ex where
 |nil | cons (a r:Ex)
 |var (i:Nat) | con (x:D) | gint (g:Str) (i:Int)
 |tup (as:Ex) | lst (as:Ex)
 |bin (o:Bi) (a b:Ex) | cmp (o:Cm) (a b:Ex) | neg (a:Ex)
 |not (a:Ex) | and (a b:Ex) | or (a b:Ex) | orT (a b:Ex) | ite (c a b:Ex)
 |ch (o o':Cm) (a b c:Ex)
 |bf (f:Bf) (as:Ex) | isi (t:Ty) (a:Ex)
 |idx (a i:Ex) | sl (a lo hi:Ex) | rev (a:Ex)
 |call (f:Nat) (as:Ex)
 |comp (own:Nat) (capt:List Nat) (p:Pat) (it:It) (src cond el:Ex)
 |zget (i k:Nat) | lrng (b:Bool) (as:Ex)
abbrev most:Nat:=100000
def D80:Nat:=2 ^ 4000
mutual
noncomputable def eqD:D->D->Bool
 |.non,.non=>true|.bl a,.bl b=>a == b|.int a,.int b=>a == b|.str a,.str b=>a == b|.bl a,.int b=>(if a then 1 else 0) == b|.int a,.bl b=>a == (if b then 1 else 0)|.tup a,.tup b=>H40 a b|.lst a,.lst b=>H40 a b|.dct,.dct=>true|_,_=>false
noncomputable def H40:List D->List D->Bool
 |[],[]=>true|a::r,b::q=>eqD a b&&H40 r q|_,_=>false
end
mutual
noncomputable def ltD:D->D->Option Bool
 |.int a,.int b=>some (decide (a < b))|.tup a,.tup b=>y21 a b|_,_=>none
noncomputable def y21:List D->List D->Option Bool
 |[],[]=>some false|[],_::_=>some true|_::_,[]=>some false|a::r,b::q=>if eqD a b then y21 r q else ltD a b
end
mutual
noncomputable def x30:D->Bool
 |.dct=>false|.tup l=>g60 l|.lst l=>g60 l|.str x=>PyData.strOk x|_=>true
noncomputable def g60:List D->Bool
 |[]=>true|x::r=>x30 x&&g60 r
end
mutual
noncomputable def deep:D->Nat
 |.tup l=>l60 l + 1|.lst l=>l60 l + 1|_=>0
noncomputable def l60:List D->Nat
 |[]=>0|x::r=>Nat.max (deep x) (l60 r)
end
def okD(d:D):Bool:=x30 d&&decide (deep d<=40)
def T61(l:List D):Bool:=g60 l&&decide (l60 l<=39)
theorem e50{c:Prop}[Decidable c]{α:Type}{a:Option α}{b:α}(h:(if c then a else none)=some b):c/\a=some b:=by
 by_cases k:c
 ·rw[if_pos k] at h;exact⟨k,h⟩
 ·rw[if_neg k] at h;cases h
def eqO(a b:D):Option Bool:=if okD a&&okD b then some (eqD a b) else none
def eqE:D->D->Option Bool
 |.tup l,.tup []=>some l.isEmpty|_,_=>none
def eqQ(a b:D):Option Bool:=if okD a&&okD b then some (eqD a b) else eqE a b
def ltO(a b:D):Option Bool:=if okD a&&okD b then ltD a b else none
def memD(x:D)(l:List D):Bool:=l.any λy=>eqD y x
def T71(x:D)(l:List D):Option Bool:=if okD x&&T61 l then some (memD x l) else none
def S20:List D->Option (List Int)
 |[]=>some []|.int i::r=>(S20 r).map (i::·)|_=>none
def u50:Bi->D->D->Option S
 |.add,.int i,.int j=>some (.d (.int (i + j)))|.add,.tup a,.tup b=>if a.length + b.length<=most then some (.d (.tup (a++b))) else none|.add,.lst a,.lst b=>if a.length + b.length<=most then some (.fr (a++b)) else none|.sub,.int i,.int j=>some (.d (.int (i - j)))|.mul,.int i,.int j=>if i.natAbs < D80/\j.natAbs < D80 then some (.d (.int (i * j))) else none|.mul,.tup a,.int j=>if 0<=j/\j.toNat * a.length<=most/\j < 1000000 then some (.d (.tup (Õ j.toNat a).flatten)) else none|.mul,.lst a,.int j=>if 0<=j/\j.toNat * a.length<=most/\j < 1000000 then some (.fr (Õ j.toNat a).flatten) else none|.fdiv,.int i,.int j=>if 0 < j/\j.natAbs < D80 then some (.d (.int (i / j))) else none|.mod,.int i,.int j=>if 0 < j then some (.d (.int (i % j))) else none|.pow,.int i,.int j=>if 0<=j/\j<=1000/\i.natAbs < 2 ^ 64 then some (.d (.int (i ^ j.toNat))) else none|_,_,_=>none
def k31:D->Bool
 |.non=>true|_=>false
def neO:D->D->Option Bool
 |.dct,.tup _=>some true|a,b=>(eqO a b).map (!·)
def C70:Cm->D->D->Option Bool
 |.eq,a,b=>eqQ a b|.ne,a,b=>neO a b|.lt,a,b=>ltO a b|.gt,.int a,.int b=>some (decide (b < a))|.le,.int a,.int b=>some (decide (a<=b))|.le,.tup a,.tup b=>(S20 a).bind λns=>(S20 b).map λms=>HT.leB ns ms|.ge,.int a,.int b=>some (decide (b<=a))|.is,.bl a,.bl b=>some (a == b)|.is,a,.non=>some (k31 a)|.mem,a,.tup l=>T71 a l|.mem,a,.lst l=>T71 a l|_,_,_=>none
def k42:Ty->D->Bool
 |.int,.int _=>true|.int,.bl _=>true|.bool,.bl _=>true|.tuple,.tup _=>true|.list,.lst _=>true|.str,.str _=>true|.seq,.tup _=>true|.seq,.lst _=>true|_,_=>false
def asB:D->Option Bool
 |.bl b=>some b|_=>none
def Z51:D->Option (List D)
 |.tup l=>some l|_=>none
def asI:D->Option Int
 |.int i=>some i|_=>none
def S30:D->Option (List D)
 |.tup l=>some l|.lst l=>some l|_=>none
mutual
noncomputable def flt:D->List Int
 |.int i=>[i]|.tup l=>y42 l|_=>[]
noncomputable def y42:List D->List Int
 |[]=>[]|x::r=>flt x++y42 r
end
mutual
noncomputable def eqT:D->D->Bool
 |.int i,.int j=>i == j|.tup a,.tup b=>Q60 a b|_,_=>false
noncomputable def Q60:List D->List D->Bool
 |[],[]=>true|x::r,y::q=>eqT x y&&Q60 r q|_,_=>false
end
def k41:D->Nat
 |.int _=>0|.tup (.int _::_)=>1|.tup (.tup _::_)=>2|_=>3
def j30(x y:D):Bool:=k41 y == k41 x&&(ltD x y == some (MySort.h40 (flt x) (flt y))&&(eqT x y || !(flt x == flt y)))
def p10(l:List D):Bool:=l.all λx=>decide (k41 x < 3)&&(okD x&&l.all (j30 x))
def y31(k:D):List D->List D
 |[]=>[k]|y::r=>if MySort.h40 (flt y) (flt k) then y::y31 k r else k::y::r
def A40:List D->List D
 |[]=>[]|k::r=>y31 k (A40 r)
def k00(k m:Nat):D:=.tup ((TS.A10 k 0 m).map λ(i:Nat)=>.int i)
def g20(k:Nat):List D:=(î (2 ^ k)).map (k00 k)
def y41(k:Nat):List D:=(TS.sN k).map (k00 k)
def y52(l:List D):Option (List D):=((î 9).find? λk=>Q60 l (g20 k)).map y41
def sortedS(x:D):Option S:=(S30 x).bind λl=>if l.length < 64/\p10 l=true then some (.fr (A40 l)) else(y52 l).map S.fr
def Q70:List D->Option Int
 |[]=>some 0|.int i::r=>(Q70 r).map (i + ·)|_=>none
def bfD:Bf->List D->Option S
 |.len,[x]=>(S30 x).map λl=>.d (.int l.length)|.tuple,[x]=>(S30 x).map λl=>.d (.tup l)|.list,[x]=>(S30 x).map λl=>.fr l|.all,[.lst l]=>(l.mapM asB).map λbs=>.d (.bl (bs.all id))|.sorted,[x]=>sortedS x|.sum,[x]=>((S30 x).bind Q70).map λi=>.d (.int i)|.min,[.int i,.int j]=>some (.d (.int (if j < i then j else i)))|.max,[.int i,.int j]=>some (.d (.int (if j > i then j else i)))|.int,[.bl b]=>some (.d (.int (if b then 1 else 0)))|.int,[.int i]=>some (.d (.int i))|_,_=>none
def d71:D->D->Option D
 |.tup l,.int i=>atI l i|.lst l,.int i=>atI l i|_,_=>none
def cutD(l:List D)(lo hi:Option Int):List D:=(l.drop (HT.sIx l.length 0 lo)).take (HT.sIx l.length l.length hi - HT.sIx l.length 0 lo)
def slD:D->Option Int->Option Int->Option S
 |.tup l,lo,hi=>some (.d (.tup (cutD l lo hi)))|.lst l,lo,hi=>some (.fr (cutD l lo hi))|_,_,_=>none
def y62:D->Option S
 |.tup l=>some (.d (.tup l.reverse))|.lst l=>some (.fr l.reverse)|_=>none
def k51:List S->Option (Option Int)
 |[]=>some none|[.d (.int i)]=>some (some i)|_=>none
def r90:List D->Nat->List D
 |[],_=>[]|x::r,i=>.tup [.int i,x]::r90 r (i + 1)
def q00:List D->List D->List D
 |x::r,y::q=>.tup [x,y]::q00 r q|_,_=>[]
def inR:Int->Bool
 |.ofNat n=>Nat.blt n 100000|.negSucc n=>Nat.blt n 99999
theorem H50:inR j=true↔-100000 < j/\j < 100000:=by
 cases j with
 |ofNat n=>show ble (n + 1) 100000=true↔_;rw[Nat.ble_eq];show _↔-100000 < (n:Int)/\(n:Int) < 100000;omega|negSucc n=>show ble (n + 1) 99999=true↔_;rw[Nat.ble_eq,Int.negSucc_eq];omega
def itD:It->List D->Option (List D)
 |.seq,[x]=>S30 x|.rng1,[.int j]=>if inR j=true then some ((î j.toNat).map λ(i:Nat)=>D.int i) else none|.rng2,[.int i,.int j]=>if inR i=true/\inR j=true then some ((î (j - i).toNat).map λ(k:Nat)=>D.int (i + k)) else none|.zip,[.tup a,.tup b]=>some (q00 a b)|.zip,[.lst a,.lst b]=>some (q00 a b)|.enum,[.tup a]=>some (r90 a 0)|.enum,[.lst a]=>some (r90 a 0)|_,_=>none
def lrS:Bool->List D->S
 |true,xs=>.d (.tup xs)|false,xs=>.fr xs
def lrN:Bool->Str
 |true=>"tuple"|false=>"list"
def lrD:List D->Option (List D)
 |[x]=>itD .rng1 [x]|l=>itD .rng2 l
mutual
noncomputable def d50:Pat->D->Env->Option Env
 |.v i=>λx ρ=>some (ρ.set i (some (.d x)))
 |.tup ps=>λx ρ=>match x with
  |.tup l=>bindL ps l ρ|_=>none
 |.nil=>λ_ _=>none|.cons _ _=>λ_ _=>none
noncomputable def bindL:Pat->List D->Env->Option Env
 |.nil=>λl ρ=>match l with
  |[]=>some ρ|_=>none
 |.cons p r=>λl ρ=>match l with
  |x::l=>(d50 p x ρ).bind λρ=>bindL r l ρ|_=>none
 |.v _=>λ_ _=>none|.tup _=>λ_ _=>none
end
def turns(f:D->M (Option D)):List D->M (List D)
 |[]=>M.ret []|x::r=>M.bind (f x) λo=>M.bind (turns f r) λl=>M.ret (match o with | some y=>y::l | none=>l)
def m10(fc fe:Env->M (List S))(p:Pat)(ρ0:Env)(x:D):M (Option D):=M.bind (M.of (d50 p x ρ0)) λρ'=>M.bind (fc ρ') λc=>match c with
 |[]=>M.bind (fe ρ') λy=>M.bind (M.of (pl y)) λy=>M.ret (some y)|[.d (.bl true)]=>M.bind (fe ρ') λy=>M.bind (M.of (pl y)) λy=>M.ret (some y)|[.d (.bl false)]=>M.ret none|_=>M.no
def k61(k:Nat):Option (Option S)->Z->Option (R (List S))
 |some (some .z),some p=>if k=0 then some (.ok [.d (.int p.1)] (some p)) else if k=1 then some (.ok [.d (.bl p.2)] (some p)) else none|_,_=>none
abbrev FT:=Bool->Nat->List S->M S
abbrev h50(F:FT):FT:=λ_=>F true
def ev:FT->Ex->Env->M (List S)
 |F,.nil=>λ_=>M.ret []|F,.cons a r=>λρ=>M.bind (ev F a ρ) λx=>M.bind (M.of (one x)) λs=>M.bind (ev F r ρ) λy=>M.ret (s::y)
 |F,.var i=>λρ=>match ρ[i]? with
  |some (some s)=>M.ret [plS s]|_=>M.no
 |F,.con x=>λ_=>M.ret [.d x]|F,.gint _ i=>λ_=>M.ret [.d (.int i)]|F,.tup as=>λρ=>M.bind (ev F as ρ) λl=>M.bind (M.of (plA l)) λds=>if ds.length<=most then M.ret [.d (.tup ds)] else M.no|F,.lst as=>λρ=>M.bind (ev F as ρ) λl=>M.bind (M.of (plA l)) λds=>if ds.length<=most then M.ret [.fr ds] else M.no|F,.bin o a b=>λρ=>M.bind (ev F a ρ) λx=>M.bind (M.of (pl x)) λx=>M.bind (ev F b ρ) λy=>M.bind (M.of (pl y)) λy=>M.bind (M.of (u50 o x y)) λs=>M.ret [s]|F,.cmp o a b=>λρ=>M.bind (ev F a ρ) λx=>M.bind (M.of (pl x)) λx=>M.bind (ev F b ρ) λy=>M.bind (M.of (pl y)) λy=>M.bind (M.of (C70 o x y)) λb=>M.ret [.d (.bl b)]|F,.neg a=>λρ=>M.bind (ev F a ρ) λx=>M.bind (M.of ((pl x).bind asI)) λi=>M.ret [.d (.int (-i))]|F,.not a=>λρ=>M.bind (ev F a ρ) λx=>M.bind (M.of ((pl x).bind asB)) λb=>M.ret [.d (.bl !b)]|F,.and a b=>λρ=>M.bind (ev F a ρ) λx=>M.bind (M.of ((pl x).bind asB)) λc=>if c then M.bind (ev F b ρ) λy=>M.bind (M.of ((pl y).bind asB)) λc=>M.ret [.d (.bl c)] else M.ret [.d (.bl false)]|F,.or a b=>λρ=>M.bind (ev F a ρ) λx=>M.bind (M.of ((pl x).bind asB)) λc=>if c then M.ret [.d (.bl true)] else M.bind (ev F b ρ) λy=>M.bind (M.of ((pl y).bind asB)) λc=>M.ret [.d (.bl c)]|F,.orT a b=>λρ=>M.calm (M.bind (ev F a ρ) λx=>M.bind (M.of ((pl x).bind Z51)) λl=>if l.isEmpty then M.bind (ev F b ρ) λy=>M.bind (M.of ((pl y).bind Z51)) λl=>M.ret [.d (.tup l)] else M.ret [.d (.tup l)])|F,.ite c a b=>λρ=>M.bind (ev F c ρ) λx=>M.bind (M.of ((pl x).bind asB)) λc=>if c then ev F a ρ else ev F b ρ
 |F,.ch o o' a b c=>λρ=>M.bind (ev F a ρ) λx=>M.bind (M.of (pl x)) λx=>M.bind (ev F b ρ) λy=>M.bind (M.of (pl y)) λy=>M.bind (M.of (C70 o x y)) λk =>
   if k then M.bind (ev F c ρ) λw=>M.bind (M.of (pl w)) λw=>M.bind (M.of (C70 o' y w)) λk=>M.ret [.d (.bl k)] else M.ret [.d (.bl false)]
 |F,.bf f as=>λρ=>M.bind (ev F as ρ) λl=>M.bind (M.of (plA l)) λds=>M.bind (M.of (bfD f ds)) λs=>M.ret [s]|F,.isi t a=>λρ=>M.bind (ev F a ρ) λx=>M.bind (M.of (pl x)) λx=>M.ret [.d (.bl (k42 t x))]|F,.idx a i=>λρ=>M.bind (ev F a ρ) λx=>M.bind (M.of (pl x)) λx=>M.bind (ev F i ρ) λy=>M.bind (M.of (pl y)) λy=>M.bind (M.of (d71 x y)) λr=>M.ret [.d r]|F,.sl a lo hi=>λρ=>M.bind (ev F a ρ) λx=>M.bind (M.of (pl x)) λx=>M.bind (ev F lo ρ) λu=>M.bind (M.of (k51 u)) λu=>M.bind (ev F hi ρ) λv=>M.bind (M.of (k51 v)) λv=>M.bind (M.of (slD x u v)) λs=>M.ret [s]|F,.rev a=>λρ=>M.bind (ev F a ρ) λx=>M.bind (M.of ((pl x).bind y62)) λs=>M.ret [s]|F,.call f as=>λρ=>M.bind (ev F as ρ) λl=>M.bind (F false f (l.map plS)) λs=>M.ret [s]|F,.comp own capt p it src cond el=>λρ=>M.bind (ev F src ρ) λl=>M.bind (M.of ((plA l).bind (itD it))) λxs=>if xs.length<=most then M.bind (M.calm (turns (m10 (ev F cond) (ev F el) p (Õ own none++capt.map λi=>(ρ[i]?).getD none)) xs)) λys=>M.ret [.fr ys] else M.no|F,.zget i k=>λρ z=>k61 k ρ[i]? z|F,.lrng b as=>λρ=>M.bind (ev F as ρ) λl=>M.bind (M.of ((plA l).bind lrD)) λxs=>M.ret [lrS b xs]
def N20(ρ:Env):Env:=ρ.map λo=>match o with
 |some .z=>none|o=>o
inductive Sm where
 |nil | seq (s r:Sm)
 |set (p:Pat) (e:Ex) | ret (e:Ex) | iff (c:Ex) (t e:Sm)
 |fr (p:Pat) (it:It) (src:Ex) (b:Sm) | whl (c:Ex) (b:Sm)
 |rais (c:Nat) | exp (e:Ex)
 |app (i:Nat) (e:Ex) | augi (i:Nat) (x e:Ex) | aug (o:Bi) (i:Nat) (e:Ex)
 |newz (i:Nat) (f:Nat) (as:Ex) | zset (i:Nat) (e:Ex)
inductive O where
 |nx (ρ:Env) | rt (s:S)
mutual
noncomputable def bare:D->Bool
 |.lst _=>false|.tup l=>i50 l|.dct=>false|_=>true
noncomputable def i50:List D->Bool
 |[]=>true|x::r=>bare x&&i50 r
end
def C80:S->Bool
 |.d x=>bare x|.fr xs=>i50 xs|_=>true
def S40(ρ:Env):Env:=ρ.map λo=>o.map plS
def N30(b:Bool):Option S->Option S
 |some (.fr xs)=>some (if b then .fr xs else .d (.lst xs))|o=>o
theorem N40(b:Bool)(ρ:Env):ρ.map (N30 b)=if b then ρ else S40 ρ:=by
 have h:∀ o:Option S,N30 b o=if b then o else o.map plS:=λo=>by
  match o with
  |some (.fr xs)=>cases b <;> rfl
  |some (.d _)=>cases b <;> rfl
  |some .z=>cases b <;> rfl
  |none=>cases b <;> rfl
 rw[show N30 b=λo=>if b then o else o.map plS from funext h];cases b with
 |true=>exact map_id ρ|false=>rfl
def e80(s:S)(ρ:Env):Env:=ρ.map (N30 (C80 s))
def A50:Pat->S->Env->Option Env
 |p,.d x,ρ=>d50 p x ρ|.v i,s,ρ=>if i < ρ.length then some (ρ.set i (some s)) else none|_,_,_=>none
def Q80(f:D->Env->M O):List D->Env->M O
 |[],ρ=>M.ret (.nx ρ)
 |x::r,ρ=>M.bind (f x ρ) λo=>match o with
  |.nx ρ=>Q80 f r ρ|.rt s=>M.ret (.rt s)
def E01(c:Env->M (List S))(f:Env->M O):Nat->Env->M O
 |0,_=>M.no
 |n + 1,ρ=>M.bind (c ρ) λx=>M.bind (M.of ((pl x).bind asB)) λk=>if k then M.bind (f ρ) λo=>match o with
  |.nx ρ=>E01 c f n ρ|.rt s=>M.ret (.rt s)
  else M.ret (.nx ρ)
def ownAt(ρ:Env)(i:Nat):Option (List D):=match ρ[i]? with
 |some (some (.fr xs))=>some xs|_=>none
def D90(xs:List D)(i:Int)(y:D):Option (List D):=(ixN xs.length i).map λj=>xs.set j y
def M21:D->Bool
 |.tup l=>i50 l|.lst l=>i50 l|_=>true
def N50(l:List S):Bool:=match plA l with
 |some ds=>ds.all M21|none=>false
def noS:S->Option S
 |.z=>none|s=>some s
def M31:(it:It)->(e:Ex)->Option {i:Nat // it=.seq/\e=.cons (.var i) .nil}
 |.seq,.cons (.var i) .nil=>some ⟨i,rfl,rfl⟩|_,_=>none
def d81:List S->Bool
 |[]=>false|.d (.lst _)::_=>true|_::r=>d81 r
def N60(it:It)(e:Ex)(l:List S)(ρ:Env):Env:=match M31 it e with
 |some i=>ρ.set i.1 ((ρ[i.1]?.getD none).map plS)
 |none=>match d81 l with
  |true=>S40 ρ|false=>ρ
def k71(it:It)(e:Ex)(l:List S)(ρ:Env):Env:=(N60 it e l ρ).map (N30 (N50 l))
abbrev T81:Nat:=20000
def k81(tp:Bool)(ρ:Env)(i:Nat):List S->Option (R O)
 |[.fr [.int n,.bl b]]=>if tp then some (.ok (.nx ((N20 ρ).set i (some .z))) (some (n,b))) else none|_=>none
def k91(ρ:Env)(v:Int):Option (Option S)->Z->Option (R O)
 |some (some .z),some p=>some (.ok (.nx ρ) (some (v,p.2)))|_,_=>none
def ex(F:FT)(tp:Bool):Sm->Env->M O
 |.nil=>λρ=>M.ret (.nx ρ)
 |.seq s r=>λρ=>M.bind (ex F tp s ρ) λo=>match o with
  |.nx ρ=>ex F tp r ρ|.rt s=>M.ret (.rt s)
 |.set p e=>λρ=>M.bind (ev F e ρ) λl=>M.bind (M.of (one l)) λs=>M.bind (M.of (A50 p s (e80 s ρ))) λρ=>M.ret (.nx ρ)
 |.ret e=>λρ=>match e with
  |.var i=>(match ρ[i]? with
   |some (some s)=>M.bind (M.of (noS s)) λs=>M.ret (.rt s)
   |_=>M.no)
  |e=>M.bind (ev F e ρ) λl=>M.bind (M.of ((one l).bind noS)) λs=>M.ret (.rt s)
 |.iff c t e=>λρ=>M.bind (ev F c ρ) λx=>M.bind (M.of ((pl x).bind asB)) λc=>if c then ex F tp t ρ else ex F tp e ρ|.fr p it src b=>λρ=>M.bind (ev F src ρ) λl=>M.bind (M.of ((plA l).bind (itD it))) λxs=>Q80 (λx ρ=>M.bind (M.of (d50 p x ρ)) λρ=>ex F tp b ρ) xs (k71 it src l ρ)|.whl c b=>λρ=>E01 (ev F c) (ex F tp b) T81 ρ|.rais c=>λ_ z=>some (.er c z)|.exp e=>λρ=>M.bind (ev F e ρ) λl=>M.bind (M.of (one l)) λ_=>M.ret (.nx ρ)|.app i e=>λρ=>M.bind (M.of (ownAt ρ i)) λxs=>M.bind (ev F e ρ) λl=>M.bind (M.of (pl l)) λx=>if bare x=true/\xs.length < most then M.ret (.nx (ρ.set i (some (.fr (xs++[x]))))) else M.no
 |.augi i ix e=>λρ=>M.bind (M.of (ownAt ρ i)) λxs=>M.bind (ev F ix ρ) λj=>M.bind (M.of ((pl j).bind asI)) λj=>M.bind (M.of (atI xs j)) λy=>M.bind (ev F e ρ) λl=>M.bind (M.of (pl l)) λx =>
   M.bind (M.of ((asI x).bind λx=>(asI y).map λy=>D.int (y + x))) λv=>M.bind (M.of (D90 xs j v)) λxs=>M.ret (.nx (ρ.set i (some (.fr xs))))
 |.aug o i e=>λρ=>M.bind (M.of ((ρ[i]?.getD none).bind plD)) λy=>M.bind (ev F e ρ) λl=>M.bind (M.of ((pl l).bind asI)) λx=>M.bind (M.of ((asI y).bind λy=>u50 o (.int y) (.int x))) λs=>M.bind (M.of (A50 (.v i) s (e80 s ρ))) λρ=>M.ret (.nx ρ)|.newz i f as=>λρ=>M.bind (ev F (.call f as) ρ) λl=>λ_=>k81 tp ρ i l|.zset i e=>λρ=>M.bind (ev F e ρ) λl=>M.bind (M.of ((pl l).bind asI)) λv=>λz=>k91 ρ v ρ[i]? z
inductive Df where
 |code (ps ns:Nat) (b:Sm) | prim (f:List S->M S)
def H60:Z->Z->Z
 |none,_=>none|some _,z=>z
def start(ns:Nat)(l:List S):Env:=l.map some++Õ (ns - l.length) none
def run(F:FT):Df->List S->M S
 |.code ps ns b,l=>λz=>if l.length=ps/\ps<=ns then(match ex F z.isNone b (start ns (l.map plS)) z with
  |some (.ok (.nx _) z1)=>some (.ok (.d .non) (H60 z z1))|some (.ok (.rt s) z1)=>some (.ok s (H60 z z1))|some (.er c z1)=>some (.er c (H60 z z1))
  |none=>none) else none
 |.prim f,l=>f l
def b40(T:List Df):Nat->Nat->List S->M S
 |k + 3,f,l=>match T[f]? with
  |some d=>run (λb g m=>match b with | true=>b40 T k g m | false=>b40 T (k + 2) g m) d l
  |none=>M.no
 |_,_,_=>M.no
abbrev N70(T:List Df)(k:Nat):FT:=λb g m=>match b with | true=>b40 T (k - 2) g m | false=>b40 T k g m
theorem S50(T:List Df)(k f:Nat)(l:List S):b40 T (k + 3) f l=match T[f]? with
  |some d=>run (N70 T (k + 2)) d l|none=>M.no:=rfl
end Q
namespace Q
open PySem L2 PySem.Spec PyProof.Rows
def o70(K:Â)(H:Hp)(a:Ç)(xs:List V):Prop:=Rd H a (.lst xs)∨∃ (its:Array Ã) (n:Nat),K.lookup a=some { cls:=.type "list",data:=.seq its n }/\its.size<=sizeLine/\Vals xs its.toList
theorem o70.of{K:Â}{H:Hp}{a:Ç}{xs:List V}(h:H a=some (.lst xs)):o70 K H a xs:=.inl (.inl h)
theorem o70.sq{K:Â}{H:Hp}{a:Ç}{xs:List V}(h:o70 K H a xs):SqL K H a xs:=by
 rcases h with h | ⟨its,n,h1,h2,h3⟩
 ·exact .inl h
 ·exact .inr ⟨_,its,n,h1,rfl,rfl,rfl,h2,h3⟩
theorem o70.same{K:Â}{H H':Hp}{a:Ç}{xs:List V}(h:o70 K H a xs)(e:a30 H H'):o70 K H' a xs:=by
 rcases h with (h | ⟨o,h⟩) | h
 ·exact .inl (.inl (e _ _ h))
 ·exact .inl (.inr ⟨o,e _ _ h⟩)
 ·exact .inr h
theorem o70.mem(I:Inv X pins σ H s)(h:o70 X.K H a xs):xs.length<=sizeLine/\∃ (its:List Ã) (n:Nat),Vals xs its/\xs.length=its.length/\s.heap.get? a=some { cls:=.type "list",data:=.seq its.toArray n }:=by
 rcases h with (h | ⟨o,h⟩) | ⟨its,n,h1,h2,h3⟩
 ·exact I.o22 h
 ·obtain⟨e,z,its,n,r,e2⟩:=I.hok a _ h;exact⟨z,its,n,r,r.length,e2⟩
 ·refine⟨by rw[h3.length,È0];exact h2,its.toList,n,h3,h3.length,?_⟩
  have:=I.kIn a _ h1;rw[Ì7];exact this
mutual
def Hd(K:Â)(H:Hp):D->V->Prop
 |.non,v=>v=.non|.bl b,v=>v=.bl b|.int i,v=>v=.int i|.str x,v=>v=.str x|.tup ds,v=>∃ a xs,v=.ref a/\SqT K H a xs/\HdA K H ds xs|.lst ds,v=>∃ a xs,v=.ref a/\o70 K H a xs/\HdA K H ds xs|.dct,v=>∃ a kvs,v=.ref a/\H a=some (.dK kvs)
def HdA(K:Â)(H:Hp):List D->List V->Prop
 |[],xs=>xs=[]|d::ds,xs=>∃ x r,xs=x::r/\Hd K H d x/\HdA K H ds r
end
section
variable {K:Â}{H H':Hp}
mutual
theorem Hd.same(e:a30 H H'):∀ {d:D}{v:V},Hd K H d v->Hd K H' d v
 |.non,_,h=>by unfold Hd at h ⊢;exact h|.bl _,_,h=>by unfold Hd at h ⊢;exact h|.int _,_,h=>by unfold Hd at h ⊢;exact h|.str _,_,h=>by unfold Hd at h ⊢;exact h
 |.tup ds,_,h=>by
  unfold Hd at h ⊢;obtain⟨a,xs,rfl,h1,h2⟩:=h;exact⟨a,xs,rfl,e.sqT h1,HdA.same e h2⟩
 |.lst ds,_,h=>by
  unfold Hd at h ⊢;obtain⟨a,xs,rfl,h1,h2⟩:=h;exact⟨a,xs,rfl,h1.same e,HdA.same e h2⟩
 |.dct,_,h=>by
  unfold Hd at h ⊢;obtain⟨a,kvs,rfl,h1⟩:=h;exact⟨a,kvs,rfl,e _ _ h1⟩
theorem HdA.same(e:a30 H H'):∀ {ds:List D}{xs:List V},HdA K H ds xs->HdA K H' ds xs
 |[],_,h=>by unfold HdA at h ⊢;exact h
 |d::ds,_,h=>by
  unfold HdA at h ⊢;obtain⟨x,r,rfl,h1,h2⟩:=h;exact⟨x,r,rfl,Hd.same e h1,HdA.same e h2⟩
end
mutual
theorem Hd.has:∀ {d:D}{v:V},Hd K H d v->Has K H d v
 |.non,_,h=>by unfold Hd at h;unfold Has;exact h|.bl _,_,h=>by unfold Hd at h;unfold Has;exact h|.int _,_,h=>by unfold Hd at h;unfold Has;exact h|.str _,_,h=>by unfold Hd at h;unfold Has;exact h
 |.tup ds,_,h=>by
  unfold Hd at h;unfold Has;obtain⟨a,xs,rfl,h1,h2⟩:=h;exact⟨a,xs,rfl,h1,HdA.has h2⟩
 |.lst ds,_,h=>by
  unfold Hd at h;unfold Has;obtain⟨a,xs,rfl,h1,h2⟩:=h;exact⟨a,xs,rfl,h1.sq,HdA.has h2⟩
 |.dct,_,h=>by unfold Hd at h;unfold Has;exact h
theorem HdA.has:∀ {ds:List D}{xs:List V},HdA K H ds xs->D70 K H ds xs
 |[],_,h=>by unfold HdA at h;unfold D70;exact h
 |d::ds,_,h=>by
  unfold HdA at h;unfold D70;obtain⟨x,r,rfl,h1,h2⟩:=h;exact⟨x,r,rfl,Hd.has h1,HdA.has h2⟩
end
theorem HdA.nil:HdA K H [] []:=by unfold HdA;rfl
theorem HdA.cons(h:Hd K H d x)(r:HdA K H ds xs):HdA K H (d::ds) (x::xs):=by unfold HdA;exact⟨x,xs,rfl,h,r⟩
theorem HdA.b70(h:HdA K H (d::ds) xs):∃ x r,xs=x::r/\Hd K H d x/\HdA K H ds r:=by unfold HdA at h;exact h
theorem HdA.e70(h:HdA K H [] xs):xs=[]:=by unfold HdA at h;exact h
theorem HdA.length:∀ {ds:List D}{xs:List V},HdA K H ds xs->xs.length=ds.length
 |[],_,h=>by rw[h.e70];rfl
 |d::ds,_,h=>by
  obtain⟨x,r,rfl,_,h2⟩:=h.b70;simp[h2.length]
theorem HdA.get:∀ {ds:List D}{xs:List V}{i:Nat}{d:D},HdA K H ds xs->ds[i]?=some d->∃ x,xs[i]?=some x/\Hd K H d x
 |[],_,_,_,_,e=>by simp at e
 |d::ds,_,i,d',h,e=>by
  obtain⟨y,r,rfl,h1,h2⟩:=h.b70;cases i with
  |zero=>simp at e;subst e;exact⟨y,rfl,h1⟩
  |succ i =>
   obtain⟨x',e1,e2⟩:=HdA.get (i:=i) h2 (by simpa using e)
   exact⟨x',by simpa using e1,e2⟩
theorem HdA.append:∀ {ds es:List D}{xs ys:List V},HdA K H ds xs->HdA K H es ys->HdA K H (ds++es) (xs++ys)
 |[],_,_,_,h,g=>by rw[h.e70];exact g
 |d::ds,_,_,_,h,g=>by
  obtain⟨x,r,rfl,h1,h2⟩:=h.b70;exact .cons h1 (HdA.append h2 g)
theorem HdA.take:∀ {ds:List D}{xs:List V} (n:Nat),HdA K H ds xs->HdA K H (ds.take n) (xs.take n)
 |ds,xs,0,_=>by simp;exact .nil|[],_,n + 1,h=>by rw[h.e70];simp;exact .nil
 |d::ds,_,n + 1,h=>by
  obtain⟨x,r,rfl,h1,h2⟩:=h.b70;exact .cons h1 (HdA.take n h2)
theorem HdA.drop:∀ {ds:List D}{xs:List V} (n:Nat),HdA K H ds xs->HdA K H (ds.drop n) (xs.drop n)
 |ds,xs,0,h=>by simpa using h|[],_,n + 1,h=>by rw[h.e70];simp;exact .nil
 |d::ds,_,n + 1,h=>by
  obtain⟨x,r,rfl,h1,h2⟩:=h.b70;exact HdA.drop n h2
theorem HdA.reverse:∀ {ds:List D}{xs:List V},HdA K H ds xs->HdA K H ds.reverse xs.reverse
 |[],_,h=>by rw[h.e70];simp;exact .nil
 |d::ds,_,h=>by
  obtain⟨x,r,rfl,h1,h2⟩:=h.b70;rw[Ð6,Ð6];exact(HdA.reverse h2).append (.cons h1 .nil)
theorem HdA.rep(h:HdA K H ds xs):∀ n:Nat,HdA K H (Õ n ds).flatten (Õ n xs).flatten
 |0=>by simp;exact .nil|n + 1=>by rw[Á8,Á8,Å8,Å8];exact h.append (h.rep n)
theorem HdA.set:∀ {ds:List D}{xs:List V}{d:D}{x:V} (i:Nat),HdA K H ds xs->Hd K H d x->HdA K H (ds.set i d) (xs.set i x)
 |[],_,_,_,_,h,_=>by rw[h.e70];simp;exact .nil
 |e::ds,_,d,x,i,h,g=>by
  obtain⟨y,r,rfl,h1,h2⟩:=h.b70;cases i with
  |zero=>exact .cons g h2|succ i=>exact .cons h1 (HdA.set i h2 g)
theorem HdA.ints:∀ ns:List Int,HdA K H (ns.map D.int) (ns.map V.int)
 |[]=>.nil|n::r=>.cons (by unfold Hd;rfl) (HdA.ints r)
theorem Hd.g70(h:Hd K H (.int i) v):v=.int i:=by unfold Hd at h;exact h
theorem Hd.bl_(h:Hd K H (.bl b) v):v=.bl b:=by unfold Hd at h;exact h
theorem Hd.k52(h:Hd K H .non v):v=.non:=by unfold Hd at h;exact h
theorem Hd.p42{x:Str}{v:V}(h:Hd K H (.str x) v):v=.str x:=by unfold Hd at h;exact h
theorem Hd.x90(h:Hd K H (.tup ds) v):∃ a xs,v=.ref a/\SqT K H a xs/\HdA K H ds xs:=by unfold Hd at h;exact h
theorem Hd.S60(h:Hd K H (.lst ds) v):∃ a xs,v=.ref a/\o70 K H a xs/\HdA K H ds xs:=by unfold Hd at h;exact h
theorem Hd.int:Hd K H (.int i) (.int i):=by unfold Hd;rfl
theorem Hd.bl:Hd K H (.bl b) (.bl b):=by unfold Hd;rfl
theorem Hd.non:Hd K H .non .non:=by unfold Hd;rfl
theorem Hd.str{x:Str}:Hd K H (.str x) (.str x):=by unfold Hd;rfl
theorem Hd.tup(h:SqT K H a xs)(r:HdA K H ds xs):Hd K H (.tup ds) (.ref a):=by unfold Hd;exact⟨a,xs,rfl,h,r⟩
theorem Hd.lst(h:H a=some (.lst xs))(r:HdA K H ds xs):Hd K H (.lst ds) (.ref a):=by unfold Hd;exact⟨a,xs,rfl,o70.of h,r⟩
end
def noT(H:Hp):Hp:=λb=>match H b with
 |some (.tbl _)=>none|o=>o
theorem N80(h:noT H b=some o):H b=some o/\∀ ps,o≠.tbl ps:=by
 unfold noT at h;split at h
 ·cases h
 ·rename_i n;exact⟨h,λps e=>n ps (by rw[h,e])⟩
theorem S70(h:H b=some o)(n:∀ ps,o≠.tbl ps):noT H b=some o:=by
 unfold noT;split
 ·rename_i ps e;rw[h] at e;cases e;exact absurd rfl (n ps)
 ·exact h
theorem y00(H:Hp):a30 (noT H) H:=λ_ _ h=>(N80 h).1
theorem X60(e:a30 H H'):a30 (noT H) (noT H'):=λb o h=>S70 (e b o (N80 h).1) (N80 h).2
def hz(zA:Option Ç)(H:Hp):Hp:=match zA with
 |some a=>hide a (noT H)|none=>noT H
class Tb where
 tb:List (Addr × Str)
variable [TB:Tb]
def zAt(zA:Option Ç)(z:Z)(H:Hp):Prop:=match zA,z with
 |some a,some (n,b)=>H a=some (.lst [.int n,.bl b])|none,none=>True|_,_=>False
structure d60(zA:Option Addr)(z:Z)(H:Hp):Prop where
 zat:zAt zA z H
 tab:∀ p∈TB.tb,Tab H p.1 p.2
theorem a20(zA:Option Ç)(H:Hp):a30 (hz zA H) H:=by
 cases zA with
 |none=>exact y00 H|some a=>exact a30.trans (e40 a _) (y00 H)
theorem i60(e:a30 H H'):a30 (hz zA H) (hz zA H'):=by
 cases zA with
 |none=>exact X60 e|some a=>exact A20 λb o _ h=>X60 e b o h
theorem c90(h:H b=some o)(n:zA≠some b)(ht:∀ ps,o≠.tbl ps:=by exact λ_ h=>nomatch h):hz zA H b=some o:=by
 cases zA with
 |none=>exact S70 h ht|some a=>exact G90 (S70 h ht) λe=>n (by rw[e])
theorem q10(h:hz zA H b=some o):H b=some o/\zA≠some b:=by
 cases zA with
 |none=>exact⟨y00 H b o h,λe=>nomatch e⟩
 |some a =>
  refine⟨y00 H b o (e40 a _ b o h),λe=>?_⟩;cases e;have:hide b (noT H) b=some o:=h;unfold hide at this;rw[if_pos rfl] at this;cases this
theorem s00(h:hz zA H b=some o):∀ ps,o≠.tbl ps:=by
 cases zA with
 |none=>exact(N80 h).2|some a=>exact(N80 (e40 a _ b o h)).2
structure Ext(zA:Option Addr)(H H':Hp):Prop where
 same:a30 (hz zA H) (hz zA H')
 tbl:∀ b ps,H b=some (.tbl ps)->∃ qs,H' b=some (.tbl qs)
instance {zA:Option Ç}{H H':Hp}:CoeFun (Ext zA H H') (λ_=>∀ b o,hz zA H b=some o->hz zA H' b=some o):=⟨λx=>x.same⟩
instance {zA:Option Ç}{H H':Hp}:CoeOut (Ext zA H H') (a30 (hz zA H) (hz zA H')):=⟨λx=>x.same⟩
theorem Ext.refl:Ext zA H H:=⟨a30.refl _,λb ps h=>⟨ps,h⟩⟩
theorem Ext.trans(a:Ext zA H H1)(b:Ext zA H1 H2):Ext zA H H2:=⟨a30.trans a.same b.same,λc ps h=>let ⟨qs,h1⟩:=a.tbl c ps h;b.tbl c qs h1⟩
theorem Ext.of(e:a30 H H'):Ext zA H H':=⟨i60 e,λb ps h=>⟨ps,e b _ h⟩⟩
theorem Ext.at(e:Ext zA H H')(h:H a=some o)(n:zA≠some a)(ht:∀ ps,o≠.tbl ps:=by exact λ_ h=>nomatch h):H' a=some o:=(q10 (e.same a o (c90 h n ht))).1
theorem Ext.free(e:Ext zA H H')(h:H' a=none)(n:zA≠some a):H a=none:=by
 cases q:H a with
 |none=>rfl
 |some o =>
  by_cases ht:∃ ps,o=.tbl ps
  ·obtain⟨ps,rfl⟩:=ht;obtain⟨qs,q'⟩:=e.tbl a ps q;rw[q'] at h;cases h
  ·rw[e.at q n λps z=>ht ⟨ps,z⟩] at h;cases h
theorem zAt.same(h:zAt zA z H)(e:a30 H H'):zAt zA z H':=by
 cases zA with
 |none=>cases z with
  |none=>trivial|some _=>exact h.elim
 |some a=>cases z with
  |none=>exact h.elim|some p=>exact e _ _ h
theorem d60.same(h:d60 zA z H)(e:a30 H H'):d60 zA z H':=⟨h.zat.same e,λp hp=>(h.tab p hp).same e⟩
theorem Tab.upd{H:Hp}{P a:Ç}{q:Str}{xs:List V}{o:HO}(t:Tab H P q)(h:H a=some (.lst xs)):Tab (upd H a o) P q:=by
 obtain⟨ps,e,tr,k⟩:=t;have ne:∀ {b:Ç}{u:HO},H b=some u->(∀ l,u≠.lst l)->b≠a:=λ{b u} e1 e2 z=>by
  subst z;rw[h] at e1;cases e1;exact e2 _ rfl
 refine⟨ps,by rw[a60 (ne e λ_ z=>nomatch z)];exact e,tr,λpos c hc=>?_⟩
 obtain⟨c',e1,e2⟩:=k pos c hc;exact⟨c',e1,by rw[a60 (ne e2 λ_ z=>nomatch z)];exact e2⟩
theorem d60.M41{K:Â}{zA:Option Ç}{z:Z}{H:Hp}(h:d60 zA z H){a:Ç}{xs:List V}(t:SqT K H a xs):SqT K (hz zA H) a xs:=by
 have h:=h.zat;rcases t with (t | ⟨o,t⟩) | t
 ·refine .inl (.inl (c90 t λe=>?_));subst e;cases z with
  |none=>exact h.elim
  |some p =>
   have h':H a=some (.lst [.int p.1,.bl p.2]):=h;rw[t] at h';cases h'
 ·refine .inl (.inr ⟨o,c90 t λe=>?_⟩);subst e;cases z with
  |none=>exact h.elim
  |some p =>
   have h':H a=some (.lst [.int p.1,.bl p.2]):=h;rw[t] at h';cases h'
 ·exact .inr t
theorem d60.l01(h:d60 zA z H)(n:H a=none):zA≠some a:=λe=>by
 have h:=h.zat;subst e;cases z with
 |none=>exact h.elim
 |some p =>
  have h':H a=some (.lst [.int p.1,.bl p.2]):=h;rw[n] at h';cases h'
def RvS(K:Â)(zA:Option Ç)(H0 H:Hp):S->V->Prop
 |.d x,v=>Hd K (hz zA H) x v|.fr xs,v=>∃ a ys,v=.ref a/\H0 a=none/\zA≠some a/\H a=some (.lst ys)/\HdA K (hide a (hz zA H)) xs ys|.z,v=>∃ a,zA=some a/\v=.ref a
def RvP(K:Â)(zA:Option Ç)(H:Hp):S->V->Prop
 |.d x,v=>Hd K (hz zA H) x v|.fr xs,v=>Hd K (hz zA H) (.lst xs) v|.z,v=>∃ a,zA=some a/\v=.ref a
section
variable {K:Â}{zA:Option Ç}{H0 H H':Hp}
theorem RvS.pl{s:S}{v:V}(h:RvS K zA H0 H s v):RvP K zA H s v:=by
 cases s with
 |d x=>exact h|z=>exact h
 |fr xs =>
  obtain⟨a,ys,rfl,_,h2,h3,h4⟩:=h;exact Hd.lst (c90 h3 h2) (h4.same (e40 a _))
theorem RvP.plS{s:S}{v:V}(h:RvP K zA H s v):RvP K zA H (plS s) v:=by cases s <;> exact h
theorem RvP.mono{s:S}{v:V}(h:RvP K zA H s v)(e:Ext zA H H'):RvP K zA H' s v:=by
 cases s with
 |d x=>exact Hd.same e h|z=>exact h|fr xs=>exact Hd.same e h
theorem RvS.mono{s:S}{v:V}(h:RvS K zA H0 H s v)(e:Ext zA H H'):RvS K zA H0 H' s v:=by
 cases s with
 |d x=>exact Hd.same e h|z=>exact h
 |fr xs =>
  obtain⟨a,ys,rfl,h1,h2,h3,h4⟩:=h;exact⟨a,ys,rfl,h1,h2,e.at h3 h2,h4.same (A20 λb o _ q=>e b o q)⟩
theorem RvS.from{H1:Hp}{s:S}{v:V}(h:RvS K zA H1 H s v)(e:Ext zA H0 H1):RvS K zA H0 H s v:=by
 cases s with
 |d x=>exact h|z=>exact h
 |fr xs =>
  obtain⟨a,ys,rfl,h1,h2,h3⟩:=h;exact⟨a,ys,rfl,e.free h1 h2,h2,h3⟩
theorem RvP.d_{s:S}{v:V}{x:D}(h:RvP K zA H s v)(e:plD s=some x):Hd K (hz zA H) x v:=by
 cases s with
 |d y=>cases e;exact h
 |fr xs=>cases e;exact h
 |_=>cases e
end
abbrev RvA(K:Â)(zA:Option Ç)(H:Hp):List S->List V->Prop:=Ã6 (RvP K zA H)
theorem RvA.mono{K:Â}{zA:Option Ç}{H H':Hp}{l:List S}{vs:List V}(h:RvA K zA H l vs)(e:Ext zA H H'):RvA K zA H' l vs:=Ã6.T51 h λ_ _ q=>q.mono e
theorem RvA.plS{K:Â}{zA:Option Ç}{H:Hp}:∀ {l:List S}{vs:List V},RvA K zA H l vs->RvA K zA H (l.map plS) vs
 |_,_,.nil=>.nil|_,_,.cons r t=>.cons r.plS (RvA.plS t)
theorem RvA.ds{K:Â}{zA:Option Ç}{H:Hp}:∀ {l:List S}{vs:List V}{ds:List D},RvA K zA H l vs->plA l=some ds->HdA K (hz zA H) ds vs
 |_,_,_,.nil,e=>by cases e;exact .nil
 |.d x::r,_,_,.cons h t,e=>by
  simp only[plA,Ñ1] at e;obtain⟨l,e,rfl⟩:=e;exact .cons h (RvA.ds t e)
 |.fr x::r,_,_,.cons h t,e=>by
  simp only[plA,Ñ1] at e;obtain⟨l,e,rfl⟩:=e;exact .cons h (RvA.ds t e)
 |.z::r,_,_,.cons h t,e=>by simp[plA] at e
theorem e60(h:pl l=some x):∃ s,l=[s]/\plD s=some x:=by
 unfold pl at h;split at h
 ·exact⟨_,rfl,h⟩
 ·exact⟨_,rfl,h⟩
 ·cases h
theorem M.bind_some{α β:Type}{m:M α}{f:α->M β}{z:Z}{r:R β}(h:M.bind m f z=some r):(∃ a z1,m z=some (.ok a z1)/\f a z1=some r)∨(∃ c z1,m z=some (.er c z1)/\r=.er c z1):=by
 unfold M.bind at h;split at h
 ·exact .inl ⟨_,_,by assumption,h⟩
 ·cases h;exact .inr ⟨_,_,by assumption,rfl⟩
 ·cases h
theorem M.a10{α β:Type}{o:Option α}{f:α->M β}{z:Z}{r:R β}(h:M.bind (M.of o) f z=some r):∃ a,o=some a/\f a z=some r:=by
 cases o with
 |none=>cases h
 |some a=>exact⟨a,rfl,h⟩
end Q
set_option exponentiation.threshold 5000
namespace Q
open PySem L2 PySem.Spec PyProof.Rows
variable [TB:Tb]
section
variable {K:Â}{zA:Option Ç}{z:Z}{H:Hp}
theorem y51(hp:H p=none):a30 (hz zA H) (hide p (hz zA (upd H p o))):=λb u e=>by
 obtain⟨e1,e2⟩:=q10 e;have hb:b≠p:=λq=>by subst q;rw[hp] at e1;cases e1
 exact G90 (c90 (by rw[a60 hb];exact e1) e2 (s00 e)) hb
theorem g80:RvS K zA H0 H (.d (.int i)) (.int i):=Hd.int (K:=K) (H:=hz zA H)
theorem h80:RvS K zA H0 H (.d (.bl b)) (.bl b):=Hd.bl (K:=K) (H:=hz zA H)
theorem u11(h:Hd K (hz zA H) x v):RvS K zA H0 H (.d x) v:=h
theorem p20(st:d60 zA z H)(h:HdA K (hz zA H) xs ys)(hp:H p=none):RvS K zA H (upd H p (.lst ys)) (.fr xs) (.ref p) :=
 ⟨p,ys,rfl,hp,st.l01 hp,c20,h.same (y51 hp)⟩
theorem tupQ(st:d60 zA z H)(h:HdA K (hz zA H) xs ys)(q:∀ v H',a30 H H'->RvS K zA H H' (.d (.tup xs)) v->Q v H'):x81 K H ys Q :=
 λp H' sm hq=>q _ _ sm (u11 (Hd.tup ((st.same sm).M41 hq) (h.same (i60 sm))))
end
def rD2(K:Â)(f:D->D->Option S):R2:=λx y H Q=>∃ zA z dx dy s,d60 zA z H/\Hd K (hz zA H) dx x/\Hd K (hz zA H) dy y/\f dx dy=some s/\∀ v H',a30 H H'->RvS K zA H H' s v->Q v H'
def rDn(K:Â)(f:List D->Option S):List V->Hp->VK->Prop:=λxs H Q=>∃ zA z ds s,d60 zA z H/\HdA K (hz zA H) ds xs/\f ds=some s/\∀ v H',a30 H H'->RvS K zA H H' s v->Q v H'
section
variable {X:Cx}
theorem bits_le(h:k.natAbs < D80):Ú5 k<=4000:=by
 unfold Ú5;split
 ·exact Ä3 _
 ·have hn:k.natAbs < 2 ^ 4000:=h;have:k.natAbs.log2 < 4000:=by
   rcases Nat.eq_zero_or_pos k.natAbs with h0 | hp
   ·rw[h0];decide
   ·exact(Nat.log2_lt (Ò3 hp)).mpr hn
  omega
theorem E11(hi:i.natAbs < D80)(hj:j.natAbs < D80):IntMulOk i j:=by
 have h1:=bits_le hi;have h2:=bits_le hj;unfold IntMulOk;intro h;rw[Á] at h;have h3:=h.2;unfold Å2.Int.intTooBig at h3;simp only[decide_eq_true_eq] at h3;have:(8000:Nat) < bitsLine:=by decide
 omega
theorem l11(hj:j.natAbs < D80):Å2.divisionGoesByPylong i j=false:=by
 refine PyProof.noPylong_of_log2 ?_;rcases Nat.eq_zero_or_pos j.natAbs with h0 | hp
 ·rw[h0];decide
 ·have:j.natAbs.log2 < 4000:=(Nat.log2_lt (Ò3 hp)).mpr hj;omega
theorem f50(h:n<=most):n<=sizeLine:=Ò h (by rw[Á6];decide)
def p52(K:Â):R2:=λx y H Q=>∃ l b xs zs,x=.ref l/\y=.ref b/\o70 K H l xs/\o70 K H b zs/\xs.length + zs.length<=sizeLine/\∀ p,H p=none->Q (.ref p) (upd H p (.lst (xs++zs)))
def p62(K:Â):R2:=λx y H Q=>∃ l k xs,x=.ref l/\y=.int k/\o70 K H l xs/\-(2 ^ 63)<=k/\k < 2 ^ 63/\xs.length * k.toNat<=sizeLine/\∀ p,H p=none->Q (.ref p) (upd H p (.lst (Õ k.toNat xs).flatten))
theorem M51:OpR X (Â8 .Add) (p52 X.K):=by
 intro pins s σ H x y v u Q I rx ry h;obtain⟨l,b,xs,zs,rfl,rfl,hH,hB,hz,q⟩:=h;cases rx;cases ry;obtain⟨z,its,n,r,hl,e⟩:=hH.mem I;obtain⟨z2,its2,n2,r2,hl2,e2⟩:=hB.mem I;refine PySem.P.add_list e e2 ?_ (by rw[Ó,Ó];omega)
 have ea:its.toArray++its2.toArray=(its++its2).toArray:=by simp
 rw[ea];exact⟨.ref _,_,I.y02 (t':=s.toks) (r.append r2) (by rw[Ã1];omega),rfl,q _ I.fresh⟩
theorem M61:OpR X (Â8 .Mult) (p62 X.K):=by
 intro pins s σ H x y v u Q I rx ry h;obtain⟨l,k,xs,rfl,rfl,hH,h1,h2,hz,q⟩:=h;cases rx;obtain⟨t,rfl⟩:=ry;obtain⟨z,its,n,r,hl,e⟩:=hH.mem I;have hlen:its.toArray.size * k.toNat<=sizeLine:=by rw[Ó,← hl];exact hz
 have hcap:¬ its.toArray.size * k.toNat > (2 ^ 63 - 1) / 8:=by
  have:(sizeLine:Nat)<=(2 ^ 63 - 1) / 8:=by decide
  omega
 have hfit:¬ (!Å2.List.listFitsIndex k)=true:=by
  rw[fitsIndex_both h1 h2];exact Ñ
 have hlong:¬ Ê6 (its.toArray.size * k.toNat)=true:=by
  rw[v61 hlen];exact Ñ
 have hnew:foldl (λx1 x2=>x1++x2) #[] (Õ (if its.toArray.isEmpty=true then 0 else k.toNat) its.toArray)=(Õ k.toNat its).flatten.toArray:=by
  have f0:∀ m:Nat,foldl (λx1 x2=>x1++x2) #[] (Õ m its.toArray)=(Õ m its).flatten.toArray:=λm=>by
   have:=foldl_rep its m [];rw[Ì8] at this;exact this
  rw[f0];cases its with
  |nil=>simp|cons a r'=>rw[if_neg (by simp)]
 refine wpAny_binaryOp_repeat_ref (T:="list") (U:="int") (-0) ⟨_,e,rfl⟩ (λs'=>Ö5 s' k t) noFill_list_mul F.fills_int_mul Ñ8 repeat_list F.slot_int_index.lookup
  (Æ3 Ñ8 (Ö5 s k t) F.entry_int_rmul (F.args_int_rmul_2 _ _) (int___rmul___int_list k t l its.toArray n)
   ⟨e,rfl,⟨_,e,rfl⟩,Æ3 F.slot_list_mul ⟨_,e,rfl⟩ F.entry_list_mul (F.args_list_mul_2 _ _) (AutoListH.list___mul___list_int_3 l its.toArray n k t hfit hcap hlong) ⟨e,?_⟩⟩)
 rw[hnew];exact⟨.ref _,_,I.y02 (t':=s.toks) (r.rep k.toNat) (by rw[len_rep,Ð0];exact hz),rfl,q _ I.fresh⟩
theorem M71:OpR X (Â8 .Add) (rD2 X.K (u50 .add)):=by
 intro pins s σ H x y v u Q I rx ry h;obtain⟨zA,z,dx,dy,w,st,hx,hy,e,q⟩:=h;cases dx with
 |int i =>
  cases dy with
  |int j =>
   cases e;cases hx.g70;cases hy.g70;exact W71 pins s σ H _ _ v u Q I rx ry ⟨i,j,rfl,rfl,q _ _ (a30.refl H) g80⟩
  |_=>cases e
 |tup a =>
  cases dy with
  |tup b =>
   obtain⟨hl,e⟩:=e50 e;cases e;obtain⟨p,xs,rfl,h1,h2⟩:=hx.x90;obtain⟨p',ys,rfl,h3,h4⟩:=hy.x90;exact L31 pins s σ H _ _ v u Q I rx ry ⟨p,p',xs,ys,rfl,rfl,(a20 zA H).sqT h1,(a20 zA H).sqT h3,f50 (by rw[h2.length,h4.length];exact hl),tupQ st (h2.append h4) q⟩
  |_=>cases e
 |lst a =>
  cases dy with
  |lst b =>
   obtain⟨hl,e⟩:=e50 e;cases e;obtain⟨p,xs,rfl,h1,h2⟩:=hx.S60;obtain⟨p',ys,rfl,h3,h4⟩:=hy.S60;exact M51 pins s σ H _ _ v u Q I rx ry ⟨p,p',xs,ys,rfl,rfl,h1.same (a20 zA H),h3.same (a20 zA H),f50 (by rw[h2.length,h4.length];exact hl),λr hr=>q _ _ (a30.new _ hr) (p20 st (h2.append h4) hr)⟩
  |_=>cases e
 |_=>cases e
theorem M81:OpR X (Â8 .Sub) (rD2 X.K (u50 .sub)):=by
 intro pins s σ H x y v u Q I rx ry h;obtain⟨zA,z,dx,dy,w,st,hx,hy,e,q⟩:=h;cases dx with
 |int i =>
  cases dy with
  |int j =>
   cases e;cases hx.g70;cases hy.g70;exact W81 pins s σ H _ _ v u Q I rx ry ⟨i,j,rfl,rfl,q _ _ (a30.refl H) g80⟩
  |_=>cases e
 |_=>cases e
theorem M91:OpR X (Â8 .Mult) (rD2 X.K (u50 .mul)):=by
 intro pins s σ H x y v u Q I rx ry h;obtain⟨zA,z,dx,dy,w,st,hx,hy,e,q⟩:=h;cases dx with
 |int i =>
  cases dy with
  |int j =>
   obtain⟨hl,e⟩:=e50 e;cases e;cases hx.g70;cases hy.g70;obtain⟨t,rfl⟩:=rx;obtain⟨t',rfl⟩:=ry;exact mul_int ⟨.int (i * j),H,I.tok _,⟨_,rfl⟩,q _ _ (a30.refl H) g80⟩ (E11 hl.1 hl.2)
  |_=>cases e
 |tup a =>
  cases dy with
  |int j =>
   obtain⟨hl,e⟩:=e50 e;cases e;cases hy.g70;obtain⟨p,xs,rfl,h1,h2⟩:=hx.x90;exact L41 pins s σ H _ _ v u Q I rx ry ⟨p,j,xs,rfl,rfl,(a20 zA H).sqT h1,hl.1,hl.2.2,f50 (by rw[h2.length];exact hl.2.1),tupQ st (h2.rep _) q⟩
  |_=>cases e
 |lst a =>
  cases dy with
  |int j =>
   obtain⟨hl,e⟩:=e50 e;cases e;cases hy.g70;obtain⟨p,xs,rfl,h1,h2⟩:=hx.S60;exact M61 pins s σ H _ _ v u Q I rx ry ⟨p,j,xs,rfl,rfl,h1.same (a20 zA H),by omega,by omega,f50 (by rw[h2.length,Ð0];exact hl.2.1),λr hr=>q _ _ (a30.new _ hr) (p20 st (h2.rep _) hr)⟩
  |_=>cases e
 |_=>cases e
theorem y61:OpR X (Â8 .FloorDiv) (rD2 X.K (u50 .fdiv)):=by
 intro pins s σ H x y v u Q I rx ry h;obtain⟨zA,z,dx,dy,w,st,hx,hy,e,q⟩:=h;cases dx with
 |int i =>
  cases dy with
  |int j =>
   obtain⟨hl,e⟩:=e50 e;cases e;cases hx.g70;cases hy.g70;obtain⟨t,rfl⟩:=rx;obtain⟨t',rfl⟩:=ry;refine floordiv_int ∅ ⟨.int (i / j),H,I.tok _,⟨s.toks,?_⟩,q _ _ (a30.refl H) g80⟩ (.inl (l11 hl.2))
   rw[Int.fdiv_eq_ediv_of_nonneg _ ∅]
  |_=>cases e
 |_=>cases e
theorem N01:OpR X (Â8 .Mod) (rD2 X.K (u50 .mod)):=by
 intro pins s σ H x y v u Q I rx ry h;obtain⟨zA,z,dx,dy,w,st,hx,hy,e,q⟩:=h;cases dx with
 |int i =>
  cases dy with
  |int j =>
   obtain⟨hl,e⟩:=e50 e;cases e;cases hx.g70;cases hy.g70;exact W91 pins s σ H _ _ v u Q I rx ry ⟨i,j,rfl,rfl,hl,q _ _ (a30.refl H) g80⟩
  |_=>cases e
 |_=>cases e
theorem N11:OpR X (Â8 .Pow) (rD2 X.K (u50 .pow)):=by
 intro pins s σ H x y v u Q I rx ry h;obtain⟨zA,z,dx,dy,w,st,hx,hy,e,q⟩:=h;cases dx with
 |int i =>
  cases dy with
  |int j =>
   obtain⟨hl,e⟩:=e50 e;cases e;cases hx.g70;cases hy.g70;exact X01 pins s σ H _ _ v u Q I rx ry ⟨i,j,rfl,rfl,⟨hl.1,by omega,hl.2.2⟩,q _ _ (a30.refl H) g80⟩
  |_=>cases e
 |_=>cases e
def opB:Bi->Ë6
 |.add=>.Add | .sub=>.Sub | .mul=>.Mult | .fdiv=>.FloorDiv | .mod=>.Mod | .pow=>.Pow
theorem opD(o:Bi):OpR X (Â8 (opB o)) (rD2 X.K (u50 o)):=by
 cases o
 ·exact M71
 ·exact M81
 ·exact M91
 ·exact y61
 ·exact N01
 ·exact N11
mutual
noncomputable def toP:D->PyData
 |.non=>.none|.bl b=>.bool b|.int i=>.int i|.str x=>.str x|.tup l=>.tuple (L00 l)|.lst l=>.list (L00 l)|.dct=>.none
noncomputable def L00:List D->List PyData
 |[]=>[]|x::r=>toP x::L00 r
end
end
end Q
namespace Q
open PySem L2 PySem.Spec PyProof.Rows
variable [TB:Tb]
mutual
theorem N90:∀ a b:D,x30 a=true->x30 b=true->Ø7 (toP a) (toP b)=eqD a b
 |.non,b,_,h=>by cases b <;> first | rfl | (simp[x30] at h)
 |.bl _,b,_,h=>by cases b <;> first | rfl | (simp[x30] at h)
 |.int _,b,_,h=>by cases b <;> first | rfl | (simp[x30] at h)
 |.str _,b,_,h=>by cases b <;> first | rfl | (simp[x30] at h)
 |.tup l,b,ha,h=>by
  cases b with
  |tup q =>
   exact S80 l q (by simpa [x30] using ha) (by simpa [x30] using h)
  |dct=>simp[x30] at h|_=>rfl
 |.lst l,b,ha,h=>by
  cases b with
  |lst q =>
   exact S80 l q (by simpa [x30] using ha) (by simpa [x30] using h)
  |dct=>simp[x30] at h|_=>rfl
 |.dct,_,h,_=>by simp[x30] at h
theorem S80:∀ a b:List D,g60 a=true->g60 b=true->PyData.eqvAll (L00 a) (L00 b)=H40 a b
 |[],[],_,_=>rfl|[],_::_,_,_=>rfl|_::_,[],_,_=>rfl
 |x::r,y::q,ha,hb=>by
  simp only[g60,Á] at ha hb;simp only[L00,PyData.eqvAll,H40];rw[N90 x y ha.1 hb.1,S80 r q ha.2 hb.2]
end
mutual
theorem E00:∀ a:D,x30 a=true->(toP a).canLay0=true
 |.non,_=>rfl|.bl _,_=>rfl|.int _,_=>rfl|.str _,h=>h|.tup l,h=>A60 l h|.lst l,h=>A60 l h|.dct,h=>by cases h
theorem A60:∀ a:List D,g60 a=true->PyData.canLayAll0 (L00 a)=true
 |[],_=>rfl
 |x::r,h=>by
  simp only[g60,Á] at h;simp only[L00,PyData.canLayAll0,E00 x h.1,A60 r h.2,Bool.and_self]
end
mutual
theorem H70:∀ a:D,(toP a).depth=deep a
 |.non=>rfl|.bl _=>rfl|.int _=>rfl|.str _=>rfl|.tup l=>congrArg (· + 1) (H80 l)|.lst l=>congrArg (· + 1) (H80 l)|.dct=>rfl
theorem H80:∀ a:List D,Ï0 (L00 a)=l60 a
 |[]=>rfl
 |x::r=>by
  simp only[L00,Ï0,l60];rw[H70 x,H80 r]
end
def d91(h:í)(u:Ã)(d:D):Prop:=x30 d=true/\∃ as,Reads h u (toP d) as
def d80(h:í)(us:List Ã)(ds:List D):Prop:=g60 ds=true/\∃ as,ReadsAll h us (L00 ds) as
section
variable {X:Cx}{pins:List (Ç × Obj)}{σ:L2.St}{H:Hp}{s:Å}
mutual
theorem m20(I:Inv X pins σ H s):∀ {d:D}{v:V}{u:Ã},Hd X.K H d v->RelV v u->x30 d=true->∃ as,Reads s.heap u (toP d) as
 |.non,_,_,h,r,_=>by cases h.k52;cases r;exact⟨_,.none⟩
 |.bl b,_,_,h,r,_=>by cases h.bl_;cases r;exact⟨_,.bool b⟩
 |.int i,_,_,h,r,_=>by cases h.g70;obtain⟨t,rfl⟩:=r;exact⟨_,.int i t⟩
 |.str x,_,_,h,r,_=>by cases h.p42;obtain⟨t,rfl⟩:=r;exact⟨_,.str x t⟩
 |.tup l,_,_,h,r,f=>by
  obtain⟨a,xs,rfl,h1,h2⟩:=h.x90;cases r;obtain⟨its,rv,⟨o,e1,e2,n,e3⟩,_⟩:=I.tuple h1;obtain⟨as,ra⟩:=A70 I h2 rv f;exact⟨_,.tuple e1 e2 e3 (by simpa using ra)⟩
 |.lst l,_,_,h,r,f=>by
  obtain⟨a,xs,rfl,h1,h2⟩:=h.S60;cases r;obtain⟨its,rv,⟨o,n,e1,e2,_,e3⟩,_⟩:=I.list h1.sq;obtain⟨as,ra⟩:=A70 I h2 rv f;exact⟨_,.list e1 e2 e3 (by simpa using ra)⟩
 |.dct,_,_,_,_,f=>by cases f
theorem A70(I:Inv X pins σ H s):∀ {ds:List D}{vs:List V}{us:List Ã},HdA X.K H ds vs->Vals vs us->g60 ds=true->∃ as,ReadsAll s.heap us (L00 ds) as
 |[],_,_,h,r,_=>by cases h.e70;cases r;exact⟨_,.nil⟩
 |d::ds,_,_,h,r,f=>by
  obtain⟨x,xs,rfl,h1,h2⟩:=h.b70;cases r with
  |cons r1 r2 =>
   simp only[g60,Á] at f;obtain⟨_,a1⟩:=m20 I h1 r1 f.1;obtain⟨_,a2⟩:=A70 I h2 r2 f.2;exact⟨_,.cons a1 a2⟩
end
end
theorem s10(h:okD d=true):x30 d=true/\SeqAt.shaped (toP d)=true:=by
 unfold okD at h;rw[Á,decide_eq_true_eq] at h;refine⟨h.1,?_⟩;unfold SeqAt.shaped;rw[E00 d h.1,H70,Ä6,decide_eq_true_eq];omega
section
variable {X:Cx}
theorem Z61(h:eqE a b=some c):∃ l,a=.tup l/\b=.tup []/\c=l.isEmpty:=by
 unfold eqE at h;split at h
 ·cases h;exact⟨_,rfl,rfl,rfl⟩
 ·cases h
theorem Z71(hu:X.A.units + 64 < Å0):OpR X (ñ .Eq) (rD2 X.K λa b=>(eqQ a b).map λc=>.d (.bl c)):=by
 intro pins s σ H x y v u Q I rx ry h;obtain⟨zA,z,dx,dy,w,st,hx,hy,e,q⟩:=h;unfold eqQ at e;dsimp only at e;split at e
 ·rename_i ok;cases e;rw[Á] at ok;obtain⟨f1,s1⟩:=s10 ok.1;obtain⟨f2,s2⟩:=s10 ok.2;obtain⟨as,r1⟩:=m20 I (hx.same (a20 zA H)) rx f1;obtain⟨bs,r2⟩:=m20 I (hy.same (a20 zA H)) ry f2;exact eq_dataH r1 r2 s1 s2 hu ⟨.bl _,H,I,rfl,by rw[N90 dx dy f1 f2];exact q _ _ (a30.refl H) h80⟩
 ·obtain⟨c,h1,h2⟩:=É.mp e;obtain⟨l,rfl,rfl,rfl⟩:=Z61 h1;subst h2;obtain⟨a,xs,rfl,k1,k2⟩:=hx.x90;obtain⟨b,ys,rfl,k3,k4⟩:=hy.x90;cases k4.e70;cases rx;cases ry;obtain⟨its,rv,ht,_⟩:=I.tuple ((a20 zA H).sqT k1);obtain⟨iu,ru,hu2,_⟩:=I.tuple ((a20 zA H).sqT k3);cases ru;have e1:its.length=l.length:=by rw[← rv.length,k2.length]
  refine SeqAt.eq_tupleAt (e:=λ_=>true) ht hu2 ∅ (λj _ h2=>absurd h2 (Ù6 j)) ⟨.bl _,H,I,rfl,?_⟩
  have e2:((î (min its.toArray.size ([]:List Ã).toArray.size)).all (λ_=>true)&&its.toArray.size == ([]:List Ã).toArray.size)=l.isEmpty:=by
   simp only[Ó,Á9,Nat.min_zero,List.range_zero,List.all_nil,Ä6,e1];cases l <;> rfl
  rw[e2];exact q _ _ (a30.refl H) h80
theorem Z81(hu:X.A.units + 64 < Å0):OpR X (ñ .NotEq) (rD2 X.K λa b=>(eqO a b).map λc=>.d (.bl !c)):=by
 intro pins s σ H x y v u Q I rx ry h;obtain⟨zA,z,dx,dy,w,st,hx,hy,e,q⟩:=h;unfold eqO at e;dsimp only at e;split at e
 ·rename_i ok;cases e;rw[Á] at ok;obtain⟨f1,s1⟩:=s10 ok.1;obtain⟨f2,s2⟩:=s10 ok.2;obtain⟨as,r1⟩:=m20 I (hx.same (a20 zA H)) rx f1;obtain⟨bs,r2⟩:=m20 I (hy.same (a20 zA H)) ry f2;exact ne_dataH r1 r2 s1 s2 hu ⟨.bl _,H,I,rfl,by rw[N90 dx dy f1 f2];exact q _ _ (a30.refl H) h80⟩
 ·cases e
theorem N21(hu:X.A.units + 64 < Å0):OpR X (ñ .NotEq) (rD2 X.K λa b=>(neO a b).map λc=>.d (.bl c)):=by
 intro pins s σ H x y v u Q I rx ry h;obtain⟨zA,z,dx,dy,w,st,hx,hy,e,q⟩:=h;unfold neO at e;dsimp only at e;split at e
 ·cases e;unfold Hd at hx;obtain⟨a,kvs,rfl,h1⟩:=hx;obtain⟨b,xs,rfl,h2,_⟩:=hy.x90;exact L91 hu pins s σ H _ _ v u Q I rx ry ⟨a,b,kvs,xs,rfl,rfl,(q10 h1).1,(a20 zA H).sqT h2,q _ _ (a30.refl H) h80⟩
 ·refine Z81 hu pins s σ H _ _ v u Q I rx ry ⟨zA,z,dx,dy,w,st,hx,hy,?_,q⟩;rw[← e,Option.map_map];rfl
end
theorem l21(h:T61 l=true):g60 l=true/\l60 l<=39:=by
 unfold T61 at h;rw[Á,decide_eq_true_eq] at h;exact h
theorem H90(h:okD d=true):deep d<=40:=by
 unfold okD at h;rw[Á,decide_eq_true_eq] at h;exact h.2
theorem S90(x:D)(fx:x30 x=true):∀ l:List D,g60 l=true->((L00 l).any λy=>Ø7 y (toP x))=memD x l
 |[],_=>rfl
 |y::r,h=>by
  simp only[g60,Á] at h;show(Ø7 (toP y) (toP x) || (L00 r).any λy=>Ø7 y (toP x))=(eqD y x || memD x r);rw[N90 y x h.1 fx,S90 x fx r h.2]
section
variable {X:Cx}
theorem l31(h:T71 x l=some b):okD x=true/\T61 l=true/\b=memD x l:=by
 unfold T71 at h;split at h
 ·rename_i ok;rw[Á] at ok;cases h;exact⟨ok.1,ok.2,rfl⟩
 ·cases h
theorem room_in{A:þ}(hu:A.units + 64 < Å0){l:List D}{x:D}(h:okD x=true):A.units + 1 + min (Ï0 (L00 l)) (toP x).depth < cLine:=by
 have h1:=H90 h;have h2:min (Ï0 (L00 l)) (toP x).depth<=(toP x).depth:=Nat.min_le_right _ _;have h3:=H70 x;omega
theorem N31(hu:X.A.units + 64 < Å0):OpR X (ñ .In) (rD2 X.K λa b=>(C70 .mem a b).map λc=>.d (.bl c)):=by
 intro pins s σ H x y v u Q I rx ry h;obtain⟨zA,z,dx,dy,w,st,hx,hy,e,q⟩:=h;cases dy with
 |tup l =>
  obtain⟨b,e1,e2⟩:=É.mp e;subst e2;obtain⟨o1,o2,rfl⟩:=l31 e1;obtain⟨f2,_⟩:=l21 o2;obtain⟨f1,_⟩:=s10 o1;obtain⟨as,r1⟩:=m20 I (hx.same (a20 zA H)) rx f1;obtain⟨bs,r2⟩:=m20 I (hy.same (a20 zA H)) ry (by simpa [x30] using f2)
  exact SeqAt.in_tuple_reads r2 r1 (A60 l f2) (E00 dx f1) (room_in hu o1) ⟨.bl _,H,I,rfl,by rw[S90 dx f1 l f2];exact q _ _ (a30.refl H) h80⟩
 |lst l =>
  obtain⟨b,e1,e2⟩:=É.mp e;subst e2;obtain⟨o1,o2,rfl⟩:=l31 e1;obtain⟨f2,_⟩:=l21 o2;obtain⟨f1,_⟩:=s10 o1;obtain⟨as,r1⟩:=m20 I (hx.same (a20 zA H)) rx f1;obtain⟨bs,r2⟩:=m20 I (hy.same (a20 zA H)) ry (by simpa [x30] using f2)
  exact SeqAt.in_list_reads r2 r1 (A60 l f2) (E00 dx f1) (room_in hu o1) ⟨.bl _,H,I,rfl,by rw[S90 dx f1 l f2];exact q _ _ (a30.refl H) h80⟩
 |_=>cases e
end
end Q
namespace Q
open PySem L2 PySem.Spec PyProof.Rows
variable [TB:Tb]
def p72(A:þ)(s:Å)(v u:Ã)(b:Bool):Prop:=∀ (P:à) (w:ö) (E:Ã->Å->Prop) (Q:Ã->Å->Prop),Q (.bool b) s->Ï (Ô P w) A (richCompare .Lt v u) Q E s
section
open PySem.SeqAt
open PySem.AutoSeq1 (wpAny_loadPart')
open PySem.MeetsSeq PySem.MeetsSeq2 PySem.MeetsSeq3
inductive Lx (A:Around) (s:Shared):List Value->List Value->Bool->Prop
 |nn:Lx A s [] [] false
 |nc {u us}:Lx A s [] (u::us) true
 |cn {v vs}:Lx A s (v::vs) [] false
 |eq {v u vs us b}:EqAt A s v u true->Lx A s vs us b->Lx A s (v::vs) (u::us) b
 |ne {v u vs us b}:EqAt A s v u false->p72 A s v u b->Lx A s (v::vs) (u::us) b
theorem A80(l b:Ç)(items items2:Array Ã)(n n2:Nat)(dd dd2:Option Ç)(sl sl2:Array (Option Ã))(c:Bool) :
  Meets (Å2.«tuple.__lt__» ⟨[.ref l,.ref b],[]⟩)
   (λA R s=>s.heap.get? l=some { cls:=.type "tuple",dict:=dd,data:=.seq items n,slots:=sl }/\s.heap.get? b=some { cls:=.type "tuple",dict:=dd2,data:=.seq items2 n2,slots:=sl2 } /\
    Lx A.in1 s items.toList items2.toList c/\R (.ok (.ret (.bool c))) s) :=
 .of_wp λprog w A R s h=>by
  obtain⟨hp,g,d,tk,os⟩:=s;obtain⟨hl,hb,hx,h⟩:=h;have f2:=Ù0
  wp_walk using Ã0 hl,Ã0 hb,wpAny_forIn_list _ (λrest b s'=>b.1=none/\s'=⟨hp,g,d,tk,os⟩/\∃ (vs ws:List Ã),rest=vs.zip ws /\
   vs.length + items2.size=ws.length + items.size/\Lx A.in1 ⟨hp,g,d,tk,os⟩ vs ws c) _
  case turn =>
   rintro ⟨y,x⟩ rest b s' ⟨hb',rfl,vs,ws,hz,hlen,hR⟩;cases hR with
   |nn=>rw[Õ3] at hz;cases hz
   |nc=>rw[Õ3] at hz;cases hz
   |cn=>rw[List.zip_nil_right] at hz;cases hz
   |eq he hr =>
    rw[Ç8] at hz;injection hz with hyx hrest;injection hyx with hy hx';subst hy hx';simp only[Ø] at hlen;refine À (he prog w _ _ ?_)
    wp_walk
    exact⟨rfl,rfl,_,_,hrest,by omega,hr⟩
   |ne he hr =>
    rw[Ç8] at hz;injection hz with hyx hrest;injection hyx with hy hx';subst hy hx';refine À (he prog w _ _ ?_);have hri:=λE Q q=>hr prog w E Q q
    wp_walk using hri
    exact⟨_,rfl,by simpa using h⟩
  case fin =>
   rintro ⟨b1,b2⟩ s' ⟨hb',rfl,vs,ws,hz,hlen,hR⟩;simp only at hb';subst hb';have hv:c=decide (items.size < items2.size):=by
    cases hR with
    |nn=>simp only[Á9] at hlen;exact(decide_eq_false ∅).symm|nc=>simp only[Á9,Ø] at hlen;exact(decide_eq_true ∅).symm|cn=>simp only[Á9,Ø] at hlen;exact(decide_eq_false ∅).symm|eq he hr=>rw[Ç8] at hz;cases hz
    |ne he hr=>rw[Ç8] at hz;cases hz
   rw[hv] at h
   wp_walk
   exact⟨_,rfl,by simpa [tupleCompareSizes] using h⟩
  case h =>
   exact⟨rfl,rfl,items.toList,items2.toList,rfl,by simp;omega,hx⟩
end
theorem l41(hl:Ê5 s.heap l i1)(hb:Ê5 s.heap b i2)(hu:A.units < Å0)(hx:Lx A.in1 s i1.toList i2.toList c):p72 A s (.ref l) (.ref b) c:=by
 intro P w E Q h;obtain⟨⟨cls,dd,data,sl⟩,ho,hc,n,hd⟩:=id hl;obtain⟨⟨cls2,dd2,data2,sl2⟩,ho2,hc2,n2,hd2⟩:=id hb;simp only at hc hd hc2 hd2;subst hc hd hc2 hd2;exact richCompare_meets_room (op:=.Lt) ⟨_,ho,rfl⟩ ⟨_,ho2,rfl⟩ Î9 Ú9 (Ú2 _ _) (A80 l b i1 i2 n n2 dd dd2 sl sl2 c)
  ⟨ho,ho2,hx,show Ë4 c≠Ñ2/\Q (.bool c) s from⟨(λx=>nomatch x),h⟩⟩ hu
theorem Z91(ha:d91 s.heap v a)(hb:d91 s.heap u b)(hu:A.units + deep a < Å0):Ó2 A s v u (eqD a b):=by
 obtain⟨f1,as,r1⟩:=ha;obtain⟨f2,bs,r2⟩:=hb;rw[← N90 a b f1 f2];have h:=H70 a;have h2:min (toP a).depth (toP b).depth<=(toP a).depth:=Nat.min_le_left _ _;exact SeqAt.eqAt_reads (toP a) (toP b) A s v u as bs r1 r2 (E00 a f1) (E00 b f2) ∅
theorem d80.b70(x:d80 h us (d::ds)):∃ u r,us=u::r/\d91 h u d/\d80 h r ds:=by
 obtain⟨f,as,r⟩:=x;simp only[g60,Á] at f;cases r with
 |cons r1 r2=>exact⟨_,_,rfl,⟨f.1,_,r1⟩,f.2,_,r2⟩
theorem d80.e70(x:d80 h us []):us=[]:=by
 obtain⟨_,as,r⟩:=x;cases r;rfl
theorem in1_units(A:þ):A.in1.units=A.units + 1:=rfl
theorem N41:∀ (n:Nat) {A:þ}{s:Å},
  (∀ (a b:D) (v u:Ã) (c:Bool),deep a<=n->d91 s.heap v a->d91 s.heap u b->ltD a b=some c->A.units + n < Å0->p72 A s v u c) /\
  (∀ (a b:List D) (vs us:List Ã) (c:Bool),l60 a < n->d80 s.heap vs a->d80 s.heap us b->y21 a b=some c->A.units + n < Å0->Lx A.in1 s vs us c):=by
 intro n
 induction n with
 |zero =>
  intro A s;refine⟨λa b v u c hd ha hb e hu=>?_,λa b vs us c hd=>absurd hd (Ù6 _)⟩;cases a with
  |int i =>
   cases b with
   |int j =>
    cases e;obtain⟨_,_,r1⟩:=ha;obtain⟨_,_,r2⟩:=hb;cases r1;cases r2;exact λP w E Q h=>HT.W90 A s i _ j _ P w E Q h
   |_=>cases e
  |tup l=>simp[deep] at hd|_=>cases e
 |succ n ih =>
  have rows:∀ {A:þ}{s:Å} (a b:List D) (vs us:List Ã) (c:Bool),l60 a < n + 1->d80 s.heap vs a->d80 s.heap us b->y21 a b=some c->A.units + (n + 1) < Å0->Lx A.in1 s vs us c:=by
   intro A s a
   induction a with
   |nil =>
    intro b vs us c _ ha hb e hu;cases ha.e70;cases b with
    |nil=>cases hb.e70;cases e;exact .nn
    |cons y q=>obtain⟨u,r,rfl,_⟩:=hb.b70;cases e;exact .nc
   |cons x r ihr =>
    intro b vs us c hd ha hb e hu;obtain⟨v,vs',rfl,a1,a2⟩:=ha.b70;cases b with
    |nil=>cases hb.e70;cases e;exact .cn
    |cons y q =>
     obtain⟨u,us',rfl,b1,b2⟩:=hb.b70;simp only[l60] at hd;have d1:deep x<=n:=Nat.le_of_lt_succ (Ì5 (Nat.le_max_left _ _) hd);have d2:l60 r < n + 1:=Ì5 (Nat.le_max_right _ _) hd;have hu1:A.in1.units + n < cLine:=by rw[in1_units];omega
     have he:=Z91 (A:=A.in1) a1 b1 ∅
     simp only[y21] at e;cases hq:eqD x y with
     |true =>
      rw[hq] at he e;exact .eq he (ihr q vs' us' c d2 a2 b2 (by simpa using e) hu)
     |false =>
      rw[hq] at he e;exact .ne he ((ih (A:=A.in1) (s:=s)).1 x y v u c d1 a1 b1 (by simpa using e) hu1)
  intro A s;refine⟨λa b v u c hd ha hb e hu=>?_,rows⟩;cases a with
  |int i =>
   cases b with
   |int j =>
    cases e;obtain⟨_,_,r1⟩:=ha;obtain⟨_,_,r2⟩:=hb;cases r1;cases r2;exact λP w E Q h=>HT.W90 A s i _ j _ P w E Q h
   |_=>cases e
  |tup l =>
   cases b with
   |tup q =>
    obtain⟨f1,as,r1⟩:=ha;obtain⟨f2,bs,r2⟩:=hb;simp only[deep] at hd;cases r1 with
    |tuple k1 k2 k3 k4 =>
     cases r2 with
     |tuple m1 m2 m3 m4 =>
      exact l41 ⟨_,k1,k2,_,k3⟩ ⟨_,m1,m2,_,m3⟩ ∅ (rows l q _ _ c ∅ ⟨by simpa [x30] using f1,_,k4⟩ ⟨by simpa [x30] using f2,_,m4⟩ e hu)
   |_=>cases e
  |_=>cases e
section
variable {X:Cx}
theorem a02(h:ltO a b=some c):okD a=true/\okD b=true/\ltD a b=some c:=by
 unfold ltO at h;split at h
 ·rename_i ok;rw[Á] at ok;exact⟨ok.1,ok.2,h⟩
 ·cases h
theorem a12(hu:X.A.units + 64 < Å0):OpR X (ñ .Lt) (rD2 X.K λa b=>(C70 .lt a b).map λc=>.d (.bl c)):=by
 intro pins s σ H x y v u Q I rx ry h;obtain⟨zA,z,dx,dy,w,st,hx,hy,e,q⟩:=h;obtain⟨b,e1,e2⟩:=É.mp e;subst e2;obtain⟨o1,o2,e3⟩:=a02 (show ltO dx dy=some b from e1);obtain⟨f1,_⟩:=s10 o1;obtain⟨f2,_⟩:=s10 o2;obtain⟨as,r1⟩:=m20 I (hx.same (a20 zA H)) rx f1;obtain⟨bs,r2⟩:=m20 I (hy.same (a20 zA H)) ry f2;exact(N41 40 (A:=X.A) (s:=s)).1 dx dy v u b (H90 o1) ⟨f1,as,r1⟩ ⟨f2,bs,r2⟩ e3 ∅ _ _ _ _ ⟨.bl b,H,I,rfl,q _ _ (a30.refl H) h80⟩
theorem T00{K:Â}{H:Hp}:∀ {l:List D}{ns:List Int}{vs:List V},S20 l=some ns->HdA K H l vs->vs=ns.map V.int/\l=ns.map D.int
 |[],_,_,e,h=>by cases e;rw[h.e70];exact⟨rfl,rfl⟩
 |.int i::r,_,_,e,h=>by
  obtain⟨ms,e1,rfl⟩:=É.mp e;obtain⟨x,xs,rfl,h1,h2⟩:=h.b70;cases h1.g70;obtain⟨rfl,rfl⟩:=T00 e1 h2;exact⟨rfl,rfl⟩
 |.non::_,_,_,e,_=>by cases e
 |.bl _::_,_,_,e,_=>by cases e
 |.str _::_,_,_,e,_=>by cases e
 |.tup _::_,_,_,e,_=>by cases e
 |.lst _::_,_,_,e,_=>by cases e
 |.dct::_,_,_,e,_=>by cases e
theorem a22(hu:X.A.units + 64 < Å0):OpR X (ñ .LtE) (rD2 X.K λa b=>(C70 .le a b).map λc=>.d (.bl c)):=by
 intro pins s σ H x y v u Q I rx ry h;obtain⟨zA,z,dx,dy,w,st,hx,hy,e,q⟩:=h;cases dx with
 |int i =>
  cases dy with
  |int j =>
   cases e;cases hx.g70;cases hy.g70;exact n22 pins s σ H _ _ v u Q I rx ry ⟨i,j,rfl,rfl,q _ _ (a30.refl H) h80⟩
  |_=>cases e
 |tup a =>
  cases dy with
  |tup b =>
   obtain⟨c,e1,e2⟩:=É.mp e;subst e2;obtain⟨ns,n1,e1⟩:=Ê.mp (show(S20 a).bind _=_ from e1);obtain⟨ms,n2,rfl⟩:=É.mp e1;obtain⟨p,xs,rfl,h1,h2⟩:=hx.x90;obtain⟨p',ys,rfl,h3,h4⟩:=hy.x90;obtain⟨rfl,_⟩:=T00 n1 h2;obtain⟨rfl,_⟩:=T00 n2 h4;exact Y81 ∅ pins s σ H _ _ v u Q I rx ry ⟨p,p',ns,ms,rfl,rfl,(a20 zA H).sqT h1,(a20 zA H).sqT h3,q _ _ (a30.refl H) h80⟩
  |_=>cases e
 |_=>cases e
theorem a32:OpR X (ñ .Gt) (rD2 X.K λa b=>(C70 .gt a b).map λc=>.d (.bl c)):=by
 intro pins s σ H x y v u Q I rx ry h;obtain⟨zA,z,dx,dy,w,st,hx,hy,e,q⟩:=h;cases dx with
 |int i =>
  cases dy with
  |int j =>
   cases e;cases hx.g70;cases hy.g70;exact n32 pins s σ H _ _ v u Q I rx ry ⟨i,j,rfl,rfl,q _ _ (a30.refl H) h80⟩
  |_=>cases e
 |_=>cases e
theorem a42:OpR X (ñ .GtE) (rD2 X.K λa b=>(C70 .ge a b).map λc=>.d (.bl c)):=by
 intro pins s σ H x y v u Q I rx ry h;obtain⟨zA,z,dx,dy,w,st,hx,hy,e,q⟩:=h;cases dx with
 |int i =>
  cases dy with
  |int j =>
   cases e;cases hx.g70;cases hy.g70;exact n42 pins s σ H _ _ v u Q I rx ry ⟨i,j,rfl,rfl,q _ _ (a30.refl H) h80⟩
  |_=>cases e
 |_=>cases e
theorem y71{K:Â}{H:Hp}{d:D}{v:V}(h:Hd K H d v):decide (v=.non)=k31 d:=by
 cases d with
 |non=>cases h.k52;rfl
 |bl b=>cases h.bl_;rfl
 |int i=>cases h.g70;rfl
 |str x=>cases h.p42;rfl
 |tup l=>obtain⟨a,xs,rfl,_⟩:=h.x90;rfl
 |lst l=>obtain⟨a,xs,rfl,_⟩:=h.S60;rfl
 |dct=>unfold Hd at h;obtain⟨a,kvs,rfl,_⟩:=h;rfl
theorem a52:OpR X (ñ .Is) (rD2 X.K λa b=>(C70 .is a b).map λc=>.d (.bl c)):=by
 intro pins s σ H x y v u Q I rx ry h;obtain⟨zA,z,dx,dy,w,st,hx,hy,e,q⟩:=h;cases dy with
 |bl b =>
  cases dx with
  |bl a =>
   cases e;cases hx.bl_;cases hy.bl_;exact Z01 pins s σ H _ _ v u Q I rx ry ⟨a,b,rfl,rfl,q _ _ (a30.refl H) h80⟩
  |_=>cases e
 |non =>
  have e':some (S.d (.bl (k31 dx)))=some w:=by cases dx <;> exact e
  cases e';cases hy.k52;refine X11 pins s σ H _ _ v u Q I rx ry ⟨rfl,?_⟩;rw[y71 hx];exact q _ _ (a30.refl H) h80
 |_=>cases dx <;> cases e
def opC:Cm->CmpOp
 |.eq=>.Eq | .ne=>.NotEq | .lt=>.Lt | .le=>.LtE | .gt=>.Gt | .ge=>.GtE | .is=>.Is | .mem=>.In
theorem T91(hu:X.A.units + 64 < Å0)(o:Cm):OpR X (ñ (opC o)) (rD2 X.K λa b=>(C70 o a b).map λc=>.d (.bl c)):=by
 cases o
 ·exact Z71 hu
 ·exact N21 hu
 ·exact a12 hu
 ·exact a22 hu
 ·exact a32
 ·exact a42
 ·exact a52
 ·exact N31 hu
theorem HdA.one{K:Â}{H:Hp}{d:D}{xs:List V}(h:HdA K H [d] xs):∃ x,xs=[x]/\Hd K H d x:=by
 obtain⟨x,r,rfl,h1,h2⟩:=h.b70;rw[h2.e70];exact⟨x,rfl,h1⟩
theorem HdA.two{K:Â}{H:Hp}{d e:D}{xs:List V}(h:HdA K H [d,e] xs):∃ x y,xs=[x,y]/\Hd K H d x/\Hd K H e y:=by
 obtain⟨x,r,rfl,h1,h2⟩:=h.b70;obtain⟨y,rfl,h3⟩:=h2.one;exact⟨x,y,rfl,h1,h3⟩
theorem X70{K:Â}{zA:Option Ç}{H:Hp}{d:D}{l:List D}{v:V}(h:Hd K (hz zA H) d v)(e:S30 d=some l):∃ a xs,v=.ref a/\(SqL K H a xs∨SqT K H a xs)/\HdA K (hz zA H) l xs:=by
 cases d with
 |tup m =>
  cases e;obtain⟨a,xs,rfl,h1,h2⟩:=h.x90;exact⟨a,xs,rfl,.inr ((a20 zA H).sqT h1),h2⟩
 |lst m =>
  cases e;obtain⟨a,xs,rfl,h1,h2⟩:=h.S60;exact⟨a,xs,rfl,.inl (h1.same (a20 zA H)).sq,h2⟩
 |_=>cases e
theorem a62:f70 X (.builtin "len") (rDn X.K (bfD .len)):=by
 intro pins s σ H xs us Q I r h;obtain⟨zA,z,ds,w,st,hx,e,q⟩:=h
 match ds,e with
 |[d],e =>
  obtain⟨l,e1,rfl⟩:=É.mp (show(S30 d).map _=some w from e);obtain⟨x,rfl,h1⟩:=hx.one;obtain⟨a,ys,rfl,h2,h3⟩:=X70 h1 e1;exact M30 pins s σ H _ us Q I r ⟨a,ys,rfl,h2,by rw[h3.length];exact q _ _ (a30.refl H) g80⟩
theorem y81:f70 X (.type "tuple") (rDn X.K (bfD .tuple)):=by
 intro pins s σ H xs us Q I r h;obtain⟨zA,z,ds,w,st,hx,e,q⟩:=h
 match ds,e with
 |[d],e =>
  obtain⟨l,e1,rfl⟩:=É.mp (show(S30 d).map _=some w from e);obtain⟨x,rfl,h1⟩:=hx.one;obtain⟨a,ys,rfl,h2,h3⟩:=X70 h1 e1;refine F80 pins s σ H _ us Q I r ⟨a,ys,rfl,?_⟩;rcases h2 with h2 | h2
  ·refine .inl ⟨h2,λp hp=>q _ _ (a30.new _ hp) (u11 (Hd.tup ((st.same (a30.new _ hp)).M41 (SqT.of c20)) (h3.same (i60 (a30.new _ hp)))))⟩
  ·exact .inr ⟨h2,q _ _ (a30.refl H) (u11 (Hd.tup (st.M41 h2) h3))⟩
theorem N51:f70 X (.type "list") (rDn X.K (bfD .list)):=by
 intro pins s σ H xs us Q I r h;obtain⟨zA,z,ds,w,st,hx,e,q⟩:=h
 match ds,e with
 |[d],e =>
  obtain⟨l,e1,rfl⟩:=É.mp (show(S30 d).map _=some w from e);obtain⟨x,rfl,h1⟩:=hx.one;obtain⟨a,ys,rfl,h2,h3⟩:=X70 h1 e1;exact M40 pins s σ H _ us Q I r ⟨a,ys,rfl,h2,λp hp=>q _ _ (a30.new _ hp) (p20 st h3 hp)⟩
theorem E21{K:Â}{H:Hp}:∀ {l:List D}{bs:List Bool}{vs:List V},l.mapM asB=some bs->HdA K H l vs->vs=bs.map V.bl
 |[],_,_,e,h=>by simp at e;subst e;rw[h.e70];rfl
 |x::r,_,_,e,h=>by
  simp only[mapM_cons,bind,Ê] at e;obtain⟨b,e1,bs,e2,e3⟩:=e;cases e3;obtain⟨y,ys,rfl,h1,h2⟩:=h.b70;cases x with
  |bl c=>cases e1;cases h1.bl_;rw[E21 e2 h2];rfl
  |_=>cases e1
theorem a72(hc:X.calm=true):f70 X (.builtin "all") (rDn X.K (bfD .all)):=by
 intro pins s σ H xs us Q I r h;obtain⟨zA,z,ds,w,st,hx,e,q⟩:=h
 match ds,e with
 |[.lst l],e =>
  obtain⟨bs,e1,rfl⟩:=É.mp (show(l.mapM asB).map _=some w from e);obtain⟨x,rfl,h1⟩:=hx.one;obtain⟨a,ys,rfl,h2,h3⟩:=h1.S60;rw[E21 e1 h3] at h2;exact w41 hc pins s σ H _ us Q I r ⟨a,bs,rfl,(h2.same (a20 zA H)).sq,q _ _ (a30.refl H) h80⟩
theorem X80:∀ {ns:List Int}{vs:List Ã},Vals (ns.map V.int) vs->∃ xs:List (Int × Tok),vs=xs.map (λp=>.int p.1 p.2)/\xs.map (·.1)=ns
 |[],_,h=>by cases h;exact⟨[],rfl,rfl⟩
 |n::r,_,h=>by
  cases h with
  |cons h1 h2 =>
   obtain⟨t,rfl⟩:=h1;obtain⟨xs,rfl,e⟩:=X80 h2;exact⟨(n,t)::xs,rfl,by rw[Ç9,e]⟩
theorem y91(hc:X.calm=true):f70 X (.builtin "sum") (λxs H Q=>∃ (a:Ç) (ns:List Int),xs=[.ref a]/\(SqL X.K H a (ns.map V.int)∨SqT X.K H a (ns.map V.int))/\Q (.int ns.sum) H):=by
 intro pins s σ H xs us Q I r h;obtain⟨a,ns,rfl,hq,q⟩:=h;obtain⟨u,rfl,rx⟩:=vals1 r;cases rx;have fin:∀ {its:List Ã},Vals (ns.map V.int) its->∃ xs:Array (Int × Tok),its.toArray=intItems xs/\preSum (numAt xs) xs.size=ns.sum:=λ{its} rv=>by
  obtain⟨xs,rfl,e⟩:=X80 rv;exact⟨xs.toArray,by simp[intItems],by rw[preSum_eq,È6 (by simp)];simp[e]⟩
 rcases hq with hq | hq
 ·obtain⟨its,rv,p,_⟩:=I.list hq;obtain⟨xs,e1,e2⟩:=fin rv;exact sum_intListG (I.ok.hd hc) (e1 ▸ p.isList) λh' tk t' k=>⟨.int ns.sum,H,I.kept k,by rw[e2];exact⟨_,rfl⟩,q⟩
 ·obtain⟨its,rv,p,_⟩:=I.tuple hq;obtain⟨xs,e1,e2⟩:=fin rv;exact W.ktm_sumG (I.ok.hd hc) (e1 ▸ p) λh' tk t' k=>⟨.int ns.sum,H,I.kept k,by rw[e2];exact⟨_,rfl⟩,q⟩
theorem E31{K:Â}{H:Hp}:∀ {l:List D}{i:Int}{vs:List V},Q70 l=some i->HdA K H l vs->∃ ns:List Int,vs=ns.map V.int/\ns.sum=i
 |[],_,_,e,h=>by cases e;rw[h.e70];exact⟨[],rfl,rfl⟩
 |.int j::r,_,_,e,h=>by
  obtain⟨k,e1,rfl⟩:=É.mp (show(Q70 r).map _=_ from e);obtain⟨v,q,rfl,h1,h2⟩:=h.b70;obtain⟨ns,rfl,e2⟩:=E31 e1 h2;cases h1.g70;exact⟨j::ns,rfl,by rw[List.sum_cons,e2]⟩
theorem a82(hc:X.calm=true):f70 X (.builtin "sum") (rDn X.K (bfD .sum)):=by
 intro pins s σ H xs us Q I r h;obtain⟨zA,z,ds,w,st,hx,e,q⟩:=h
 match ds,e with
 |[d],e =>
  obtain⟨i,e1,rfl⟩:=É.mp (show((S30 d).bind Q70).map _=some w from e);obtain⟨l,e2,e3⟩:=Ê.mp e1;obtain⟨x,rfl,h1⟩:=hx.one;obtain⟨a,ys,rfl,h2,h3⟩:=X70 h1 e2;obtain⟨ns,rfl,rfl⟩:=E31 e3 h3;exact y91 hc pins s σ H _ us Q I r ⟨a,ns,rfl,h2,q _ _ (a30.refl H) (show Hd X.K (hz zA H) _ _ from Hd.int)⟩
theorem a92(hc:X.calm=true):f70 X (.builtin "min") (rDn X.K (bfD .min)):=by
 intro pins s σ H xs us Q I r h;obtain⟨zA,z,ds,w,st,hx,e,q⟩:=h
 match ds,e with
 |[.int i,.int j],e =>
  cases e;obtain⟨x,y,rfl,h1,h2⟩:=hx.two;cases h1.g70;cases h2.g70;exact g61 hc pins s σ H _ us Q I r ⟨i,j,rfl,q _ _ (a30.refl H) g80⟩
theorem b02(hc:X.calm=true):f70 X (.builtin "max") (rDn X.K (bfD .max)):=by
 intro pins s σ H xs us Q I r h;obtain⟨zA,z,ds,w,st,hx,e,q⟩:=h
 match ds,e with
 |[.int i,.int j],e =>
  cases e;obtain⟨x,y,rfl,h1,h2⟩:=hx.two;cases h1.g70;cases h2.g70;exact g51 hc pins s σ H _ us Q I r ⟨i,j,rfl,q _ _ (a30.refl H) g80⟩
theorem b12:f70 X (.type "int") (rDn X.K (bfD .int)):=by
 intro pins s σ H xs us Q I r h;obtain⟨zA,z,ds,w,st,hx,e,q⟩:=h
 match ds,e with
 |[.int i],e =>
  cases e;obtain⟨x,rfl,h1⟩:=hx.one;cases h1.g70;exact L50 pins s σ H _ us Q I r (.inl ⟨i,rfl,q _ _ (a30.refl H) g80⟩)
 |[.bl b],e =>
  cases e;obtain⟨x,rfl,h1⟩:=hx.one;cases h1.bl_;exact L50 pins s σ H _ us Q I r (.inr ⟨b,rfl,q _ _ (a30.refl H) g80⟩)
def tyN:Ty->String
 |.int=>"int" | .bool=>"bool" | .tuple=>"tuple" | .list=>"list" | .str=>"str" | .seq=>""
theorem N61(t:Ty)(d:D)(h:t≠.seq):isB d.ty (tyN t)=k42 t d:=by
 cases t <;> cases d <;> first | rfl | (exact absurd rfl h) | decide
theorem z01(d:D):(isB d.ty "tuple" || isB d.ty "list")=k42 .seq d:=by cases d <;> rfl
theorem at_of{K:Â}{H:Hp}{l:List D}{xs:List V}{i:Int}{d:D}(h:HdA K H l xs)(e:atI l i=some d):∃ v,atI xs i=some v/\Hd K H d v:=by
 unfold atI at e ⊢;obtain⟨j,e1,e2⟩:=Ê.mp e;rw[h.length,e1];exact h.get e2
theorem ixD:IxR X (rD2 X.K λa b=>(d71 a b).map S.d):=by
 intro value slice pins s σ H x y v u Q I rx ry h hs;obtain⟨zA,z,dx,dy,w,st,hx,hy,e,q⟩:=h;obtain⟨r,e1,rfl⟩:=É.mp e;cases dx with
 |tup l =>
  cases dy with
  |int i =>
   cases hy.g70;obtain⟨a,xs,rfl,h1,h2⟩:=hx.x90;obtain⟨v',e2,h3⟩:=at_of h2 e1;exact X71 value slice pins s σ H _ _ v u Q I rx ry ⟨a,xs,i,v',rfl,rfl,(a20 zA H).sqT h1,e2,q _ _ (a30.refl H) (u11 h3)⟩ hs
  |_=>cases e1
 |lst l =>
  cases dy with
  |int i =>
   cases hy.g70;obtain⟨a,xs,rfl,h1,h2⟩:=hx.S60;obtain⟨v',e2,h3⟩:=at_of h2 e1;exact h51 value slice pins s σ H _ _ v u Q I rx ry ⟨a,xs,i,v',rfl,rfl,(h1.same (a20 zA H)).sq,e2,q _ _ (a30.refl H) (u11 h3)⟩ hs
  |_=>cases e1
 |_=>cases e1
theorem E41{K:Â}{H:Hp}{l:List D}{xs:List V}(h:HdA K H l xs)(lo hi:Option Int):HdA K H (cutD l lo hi) (v51 xs lo hi):=by
 unfold cutD v51;rw[h.length];exact(h.drop _).take _
def E42(K:Â):V->Option Int->Option Int->Hp->VK->Prop:=λx lo hi H Q=>∃ zA z dx s,d60 zA z H/\Hd K (hz zA H) dx x/\slD dx lo hi=some s/\∀ v H',a30 H H'->RvS K zA H H' s v->Q v H'
theorem E52:SlR X (E42 X.K):=by
 intro pins s σ H x v vl vu lo hi sl Q I rx hs pl pu h;obtain⟨zA,z,dx,w,st,hx,e,q⟩:=h;cases dx with
 |tup l =>
  cases e;obtain⟨a,xs,rfl,h1,h2⟩:=hx.x90;exact L51 pins s σ H _ v vl vu lo hi sl Q I rx hs pl pu ⟨a,xs,rfl,(a20 zA H).sqT h1,tupQ st (E41 h2 lo hi) q⟩
 |lst l =>
  cases e;obtain⟨a,xs,rfl,h1,h2⟩:=hx.S60;exact J51 pins s σ H _ v vl vu lo hi sl Q I rx hs pl pu ⟨a,xs,rfl,(h1.same (a20 zA H)).sq,λp hp=>q _ _ (a30.new _ hp) (p20 st (E41 h2 lo hi) hp)⟩
 |_=>cases e
end
end Q
namespace Q
open PySem L2 PySem.Spec PyProof.Rows
open PySem.W (KatLex KatTups kat_nil kat_cons kat_go kat_yes kat_no kat_one kat_lt kat_kind kas_kind kat_lt_int)
theorem A90(k:D):∀ l,(y31 k l).Perm (k::l)
 |[]=>.refl _
 |y::r=>by
  unfold y31;split
  ·exact((A90 k r).cons y).trans (.swap _ _ _)
  ·exact .refl _
theorem u60:∀ l,(A40 l).Perm l
 |[]=>.refl _|k::r=>(A90 k _).trans ((u60 r).cons k)
theorem l51(k:D):∀ l,l.Pairwise (λx y=>MySort.h40 (flt y) (flt x)=false)->(y31 k l).Pairwise (λx y=>MySort.h40 (flt y) (flt x)=false)
 |[],_=>List.pairwise_singleton _ _
 |y::r,h=>by
  obtain⟨h1,h2⟩:=Ë9.mp h;unfold y31;split
  ·rename_i hy;refine Ë9.mpr ⟨λz hz=>?_,l51 k r h2⟩;rcases ü.mp ((A90 k r).mem_iff.mp hz) with rfl | hz
   ·cases q:MySort.h40 (flt z) (flt y) with
    |false=>rfl|true=>have:=MySort.o00 _ _ _ hy q;rw[MySort.p70] at this;cases this
   ·exact h1 z hz
  ·rename_i hy;refine Ë9.mpr ⟨λz hz=>?_,h⟩;rcases ü.mp hz with rfl | hz
   ·simpa using hy
   ·cases q:MySort.h40 (flt z) (flt k) with
    |false=>rfl
    |true =>
     rcases MySort.X20 _ (flt y) _ q with q | q
     ·rw[h1 z hz] at q;cases q
     ·exact absurd q hy
theorem X90:∀ l,(A40 l).Pairwise (λx y=>MySort.h40 (flt y) (flt x)=false)
 |[]=>.nil|k::r=>l51 k _ (X90 r)
mutual
theorem E51:∀ x y:D,eqT x y=true->x=y
 |.int i,y,h=>by
  cases y with
  |int j=>rw[eq_of_beq (show(i == j)=true from h)]|_=>cases h
 |.tup a,y,h=>by
  cases y with
  |tup b=>rw[T10 a b h]|_=>cases h
 |.non,y,h=>by cases y <;> cases h
 |.bl _,y,h=>by cases y <;> cases h
 |.str _,y,h=>by cases y <;> cases h
 |.lst _,y,h=>by cases y <;> cases h
 |.dct,y,h=>by cases y <;> cases h
theorem T10:∀ x y:List D,Q60 x y=true->x=y
 |[],[],_=>rfl|[],_::_,h=>by cases h
 |_::_,[],h=>by cases h
 |x::r,y::q,h=>by
  have h:(eqT x y&&Q60 r q)=true:=h;rw[Á] at h;rw[E51 x y h.1,T10 r q h.2]
end
variable [TB:Tb]
theorem N71(ok:∀ x∈l,∀ y∈l,flt x=flt y->x=y)(h:MySort.sortedBy (l.map flt) p):(p.map λi=>l.getD i .non)=A40 l:=by
 have h1:=h.1.map λi=>l.getD i .non;rw[Ë,MySort.range_getD] at h1;have e:((p.map λi=>l.getD i .non).map flt)=p.map λi=>(l.map flt).getD i []:=by
  rw[ó];refine Ã4 λi hi=>?_;have:i < l.length:=by have:=h.1.mem_iff.mp hi;simpa using this
  simp[this]
 have h2:(p.map λi=>l.getD i .non).Pairwise λx y=>MySort.h40 (flt y) (flt x)=false:=by
  have:=h.2;rw[← e,List.pairwise_map] at this;exact this
 refine Ø4 (le:=λx y=>MySort.h40 (flt y) (flt x)=false) (λa b ha hb p q=>?_) h2 (X90 l) (h1.trans (u60 l).symm);exact ok a (h1.mem_iff.mp ha) b ((u60 l).mem_iff.mp hb) (MySort.o20 _ _ q p)
mutual
theorem z11(kp:MySort.j11 h h'):∀ (d:D) {u:Ã}{as:List Ç},eqT d d=true->Reads h u (toP d) as->Reads h' u (toP d) as
 |.int i,_,_,_,r=>by cases r;exact .int _ _
 |.tup l,_,_,e,r=>by
  cases r with
  |tuple k1 k2 k3 k4=>exact .tuple (kp _ _ k1 k2) k2 k3 (m30 kp l e k4)
 |.non,_,_,e,_=>by cases e
 |.bl _,_,_,e,_=>by cases e
 |.str _,_,_,e,_=>by cases e
 |.lst _,_,_,e,_=>by cases e
 |.dct,_,_,e,_=>by cases e
theorem m30(kp:MySort.j11 h h'):∀ (l:List D) {us:List Ã}{as:List Ç},Q60 l l=true->ReadsAll h us (L00 l) as->ReadsAll h' us (L00 l) as
 |[],_,_,_,r=>by cases r;exact .nil
 |x::q,_,_,e,r=>by
  have e:(eqT x x&&Q60 q q)=true:=e;rw[Á] at e;cases r with
  |cons r1 r2=>exact .cons (z11 kp x e.1 r1) (m30 kp q e.2 r2)
end
theorem d80.get:∀ {us:List Ã}{l:List D}{i:Nat}{d:D},d80 h us l->l[i]?=some d->d91 h (us.getD i á) d
 |_,[],i,d,_,e=>by cases e
 |us,x::r,i,d,hd,e=>by
  obtain⟨u,q,rfl,h1,h2⟩:=hd.b70;cases i with
  |zero=>cases e;simpa using h1
  |succ i=>simpa using d80.get h2 (by simpa using e)
theorem d80.len:∀ {us:List Ã}{l:List D},d80 h us l->us.length=l.length
 |_,[],hd=>by rw[hd.e70];rfl
 |us,x::r,hd=>by
  obtain⟨u,q,rfl,h1,h2⟩:=hd.b70;simp[d80.len h2]
def E61(l:List D):Prop:=∀ x r,l=x::r->∃ i,x=.int i
theorem y72(hu:A.units + 40 < Å0):∀ (a c:List D) {vs us:List Ã}{r:Bool} (i:Nat),d80 s.heap vs a->d80 s.heap us c->y21 a c=some r->l60 a<=39 ->
  ((b&&i == 0)=true->E61 a/\E61 c)->fin=decide (vs.length < us.length)->Q r s->KatLex P w A b fin Q (vs.zip us) i s
 |[],[],_,_,r,i,ha,hc,e,_,_,hf,q=>by
  cases ha.e70;cases hc.e70;cases e;subst hf;exact kat_nil q
 |[],y::t,_,_,r,i,ha,hc,e,_,_,hf,q=>by
  cases ha.e70;obtain⟨u,us,rfl,_,_⟩:=hc.b70;cases e;subst hf;exact kat_nil q
 |x::l,[],_,_,r,i,ha,hc,e,_,_,hf,q=>by
  cases hc.e70;obtain⟨v,vs,rfl,_,_⟩:=ha.b70;cases e;subst hf;exact kat_nil q
 |x::l,y::t,_,_,r,i,ha,hc,e,hd,hi,hf,q=>by
  obtain⟨v,vs,rfl,a1,a2⟩:=ha.b70;obtain⟨u,us,rfl,c1,c2⟩:=hc.b70;have d1:deep x<=39:=Ò (Nat.le_max_left _ _) hd;have d2:l60 l<=39:=Ò (Nat.le_max_right _ _) hd;have e:(if eqD x y=true then y21 l t else ltD x y)=some r:=e;refine kat_cons (Z91 (A:=A) a1 c1 ∅ P w _ _ ?_)
  refine kat_go (λz=>?_) λz=>?_
  ·rw[if_pos z] at e;refine kat_yes (y72 hu l t (i + 1) a2 c2 e d2 (λk=>?_) (by rw[hf];simp) q)
   simp at k
  ·rw[if_neg (by rw[z];exact Ñ)] at e
   refine kat_no ?_;cases hb:(b&&i == 0) with
   |true =>
    obtain⟨f1,f2⟩:=hi hb;obtain⟨m,rfl⟩:=f1 x l rfl;obtain⟨n,rfl⟩:=f2 y t rfl;cases e;obtain⟨_,_,r1⟩:=a1;obtain⟨_,_,r2⟩:=c1;cases r1;cases r2;exact oneLt_int q
   |false=>exact kat_one _ _ ((N41 39 (A:=A) (s:=s)).1 x y v u r d1 a1 c1 e ∅ P w _ _ q)
theorem T20(h:k41 x=0):∃ i,x=.int i:=by
 cases x with
 |int i=>exact⟨i,rfl⟩
 |tup l =>
  cases l with
  |nil=>cases h
  |cons y r=>cases y <;> cases h
 |_=>cases h
theorem T30(h:k41 x=k)(h1:1<=k)(h3:k < 3):∃ y r,x=.tup (y::r)/\(k=1->∃ i,y=.int i)/\(k=2->∃ l,y=.tup l):=by
 cases x with
 |tup l =>
  cases l with
  |nil=>have:k=3:=h.symm;omega
  |cons y r =>
   refine⟨y,r,rfl,λe=>?_,λe=>?_⟩ <;> subst e <;> cases y <;> first | exact⟨_,rfl⟩ | cases h
 |int i=>have:k=0:=h.symm;omega|_=>have:k=3:=h.symm;omega
theorem N81(h1:1<=k)(h3:k < 3):∀ {us:List Ã}{l:List D},d80 h us l->(∀ x∈l,k41 x=k)->∃ fs,KatTups h us fs/\fs.length=us.length/\∀ v∈fs,(k=1->∃ i t,v=Ã.int i t)/\(k=2->∃ a o,v=Ä8 a/\h.get? a=some o/\o.cls=.type "tuple")
 |_,[],hd,_=>by rw[hd.e70];exact⟨[],.nil,rfl,λv hv=>absurd hv (by simp)⟩
 |_,x::r,hd,hk=>by
  obtain⟨u,q,rfl,⟨_,as,r1⟩,h2⟩:=hd.b70;obtain⟨fs,t1,t2,t3⟩:=N81 h1 h3 h2 λy hy=>hk y (Ì _ hy);obtain⟨y,l,rfl,y1,y2⟩:=T30 (hk x Ð) h1 h3;cases r1 with
  | @tuple a o vs n xs as k1 k2 k3 k4 =>
   cases hv:vs.toList with
   |nil=>rw[hv] at k4;cases k4
   |cons f fr =>
    rw[hv] at k4;cases k4 with
    |cons f1 f2 =>
     refine⟨f::fs,.cons k1 k2 k3 (by rw[← ú,hv];rfl) t1,by simp[t2],λv hm=>?_⟩
     rcases ü.mp hm with rfl | hm
     ·refine⟨λe=>?_,λe=>?_⟩
      ·obtain⟨i,rfl⟩:=y1 e;cases f1;exact⟨_,_,rfl⟩
      ·obtain⟨m,rfl⟩:=y2 e;cases f1 with
       |tuple g1 g2 g3 g4=>exact⟨_,_,rfl,g1,g2⟩
     ·exact t3 v hm
def kdOf:Nat->Ë5
 |0=>Ô2|1=>tuples' true|_=>tuples' false
theorem T40(h:j30 x y=true):k41 y=k41 x/\ltD x y=some (MySort.h40 (flt x) (flt y))/\(flt x=flt y->x=y):=by
 unfold j30 at h;rw[Á,Á,Ã3] at h;refine⟨eq_of_beq h.1,eq_of_beq h.2.1,λe=>?_⟩;rcases h.2.2 with k | k
 ·exact E51 _ _ k
 ·rw[e] at k;simp at k
theorem E71(h64:us.length < 64)(hd:d80 s.heap us l)(hu:A.units + 40 < Å0)(k3:k < 3)(hk:∀ x∈l,k41 x=k)(ho:∀ x∈l,okD x=true)(hp:∀ x∈l,∀ y∈l,j30 x y=true):MySort.Y31 P w A s us (MySort.sortedBy (l.map flt)) (kdOf k) where
 len:=by omega
 few h2:=MySort.Y41 (by rw[Ë];exact hd.len) h2
 all p hp:=by rw[hp.1.length_eq,ð,Ë,hd.len]
 kind h2 E Q q:=by
  match k,k3,hk,q with
  |0,_,hk,q =>
   refine kas_kind h2 (T:=.type "int") (λv hv=>?_) rfl rfl q;obtain⟨i,hi,rfl⟩:=List.mem_iff_getElem.mp hv;have hi':i < l.length:=by rw[← hd.len];exact hi
   obtain⟨_,as,r⟩:=hd.get (i:=i) (d:=l[i]) (by simp[hi'])
   obtain⟨n,hn⟩:=T20 (hk l[i] (Ê3 hi'));rw[hn] at r;have e:us.getD i á=us[i]:=by simp[hi]
   rw[e] at r;generalize us[i]=v at r;cases r;exact Ö3 rfl
  |1,_,hk,q =>
   obtain⟨fs,t1,t2,t3⟩:=N81 (-0) (-0) hd hk
   exact kat_kind (T:=.type "int") t1 ∅ (λv hv=>by obtain⟨i,t,rfl⟩:=(t3 v hv).1 rfl;exact Ö3 rfl) rfl q
  |2,_,hk,q =>
   obtain⟨fs,t1,t2,t3⟩:=N81 (-0) (-0) hd hk
   exact kat_kind (T:=.type "tuple") t1 ∅ (λv hv=>by
    obtain⟨a,o,rfl,g1,g2⟩:=(t3 v hv).2 rfl;rw[← g2];exact(Ñ3 g1).andThen .now) rfl q
 run:=MySort.K61 (by rw[Ë];exact hd.len) h64 λi j hi hj E C hC=>by
  have hi':i < l.length:=by rw[← hd.len];exact hi
  have hj':j < l.length:=by rw[← hd.len];exact hj
  have mi:=Ê3 hi';have mj:=Ê3 hj';obtain⟨_,h2,_⟩:=T40 (hp _ mi _ mj);have a1:=hd.get (i:=i) (d:=l[i]) (by simp[hi'])
  have b1:=hd.get (i:=j) (d:=l[j]) (by simp[hj'])
  have e1:(l.map flt).getD i []=flt l[i]:=by simp[hi']
  have e2:(l.map flt).getD j []=flt l[j]:=by simp[hj']
  rw[e1,e2] at hC;generalize MySort.h40 (flt l[i]) (flt l[j])=c at h2 hC;have kx:=hk _ mi;have ky:=hk _ mj;have ox:=H90 (ho _ mi);generalize l[i]=x at *
  generalize l[j]=y at *
  have tup:∀ b:Bool,1<=k->(b=true->k=1)->Ï (Ô P w) A (keyLt' (tuples' b) (us.getD i á) (us.getD j á)) C E s:=λb h1 hb=>by
   obtain⟨x1,xr,rfl,x2,_⟩:=T30 kx h1 k3;obtain⟨y1,yr,rfl,y2,_⟩:=T30 ky h1 k3;obtain⟨f1,as,r1⟩:=a1;obtain⟨f2,bs,r2⟩:=b1;generalize us.getD i á=v at r1;generalize us.getD j á=u at r2;cases r1 with
   |tuple p1 p2 p3 p4 =>
    cases r2 with
    |tuple q1 q2 q3 q4 =>
     refine kat_lt p1 p3 q1 q3 (y72 hu (x1::xr) (y1::yr) 0 ⟨f1,_,p4⟩ ⟨f2,_,q4⟩ h2 (by have:deep (.tup (x1::xr))=l60 (x1::xr) + 1:=rfl;omega) (λz=>?_) (by simp) hC)
     have hb1:=hb (by simpa using z)
     exact⟨λa q e=>by cases e;exact x2 hb1,λa q e=>by cases e;exact y2 hb1⟩
  match k,k3,kx,ky,tup with
  |0,_,kx,ky,_ =>
   obtain⟨m,rfl⟩:=T20 kx;obtain⟨n,rfl⟩:=T20 ky;cases h2;obtain⟨_,_,r1⟩:=a1;obtain⟨_,_,r2⟩:=b1;generalize us.getD i á=v at r1;generalize us.getD j á=u at r2;cases r1;cases r2;exact kat_lt_int hC
  |1,_,_,_,tup=>exact tup true (-0) λ_=>rfl|2,_,_,_,tup=>exact tup false (-0) λh=>by cases h
theorem HdA.pick{K:Â}{H:Hp}{l:List D}{vs:List V}(h:HdA K H l vs):∀ {p:List Nat},(∀ i∈p,i < l.length)->HdA K H (p.map λi=>l.getD i .non) (p.map λi=>vs.getD i .non)
 |[],_=>.nil
 |i::p,hp=>by
  have hi:=hp i Ð;refine .cons ?_ (HdA.pick h λj hj=>hp j (Ì _ hj));obtain⟨v,e1,e2⟩:=h.get (i:=i) (d:=l[i]) (by simp[hi])
  have g1:l.getD i .non=l[i]:=by simp[hi]
  have g2:vs.getD i .non=v:=by rw[Ü,e1];rfl
  show Hd K H (l.getD i .non) (vs.getD i .non);rw[g1,g2];exact e2
end Q
namespace Q
open PySem L2 PySem.Spec PyProof.Rows
open PySem.W (kas_mapM kas_first_eq kas_item kas_item_eq kas_cmp)
theorem N91(h:k<=8):∀ i∈TS.sN k,i < 2 ^ k:=by
 have:∀ k,k < 9->((TS.sN k).all λi=>Nat.blt i (2 ^ k))=true:=by decide +kernel
 intro i hi;exact Nat.blt_eq.mp (ï.mp (this k ∅) i hi)
theorem b22(h:k<=8):(TS.sN k).length=2 ^ k:=by
 have:∀ k,k < 9->beq (TS.sN k).length (2 ^ k)=true:=by decide +kernel
 exact Nat.eq_of_beq_eq_true (this k ∅)
theorem s20(h:i < 2 ^ k):(g20 k)[i]?=some (k00 k i):=by
 unfold g20;rw[Û,Ò8 h];rfl
theorem b32(h:k<=8):((TS.sN k).map λi=>(g20 k).getD i .non)=y41 k :=
 Ã4 λi hi=>by rw[Ü,s20 (N91 h i hi)];rfl
theorem l61:∀ a b:List Nat,y21 (a.map λ(i:Nat)=>.int i) (b.map λ(i:Nat)=>.int i)=some (TS.k32 a b)
 |[],[]=>rfl|[],_::_=>rfl|_::_,[]=>rfl
 |a::r,b::q=>by
  show(if ((a:Int) == (b:Int))=true then y21 (r.map λ(i:Nat)=>.int i) (q.map λ(i:Nat)=>.int i) else some (decide ((a:Int) < b)))=some (if beq a b=true then TS.k32 r q else Nat.blt a b);rw[l61 r q];by_cases h:a=b
  ·subst h;rw[if_pos (by simp),if_pos (Nat.beq_refl a)]
  ·rw[if_neg (by simp;omega),if_neg λe=>h (Nat.eq_of_beq_eq_true e)]
   congr 1
   rw[Ä0,decide_eq_true_eq,Nat.blt_eq];omega
variable [TB:Tb]
section
variable {P:à}{w:ö}{A:þ}{E:Ã->Å->Prop}{s:Å}
def TupAt(h:í)(v:Ã):Prop:=∃ a o xs n,v=.ref a/\h.get? a=some o/\o.cls=.type "tuple"/\o.data=.seq xs n
theorem Y00(ho:s.heap.get? a=some o)(hc:o.cls=.type "tuple")(hd:o.data=.seq xs n)(q:Q xs[0]? s):Ï (Ô P w) A (firstOfTuple' (.ref a)) Q E s:=by
 rw[kas_first_eq];refine À (Ù5 (show PySem.W.Looks (Ô P w) s.heap (typeOf (.ref a)) o.cls from(Ñ3 ho).andThen .now) ?_);rw[hc,if_neg (by first | decide | simp)]
 exact À (Í1 ho hd (Æ q))
theorem O00:∀ (vs:List Ã),(∀ v∈vs,TupAt s.heap v)->∃ fs:List (Option Ã),∀ Q,Q fs s->Ï (Ô P w) A (vs.mapM firstOfTuple') Q E s
 |[],_=>⟨[],λQ q=>by rw[List.mapM_nil];exact Æ q⟩
 |v::vs,h=>by
  obtain⟨fs,hf⟩:=O00 vs λu hu=>h u (Ì _ hu);obtain⟨a,o,xs,n,rfl,ho,hc,hd⟩:=h v Ð;refine⟨xs[0]?::fs,λQ q=>?_⟩;rw[mapM_cons];exact À (Y00 ho hc hd (À (hf _ (Æ q))))
theorem O01(ho:s.heap.get? a=some o)(hc:o.cls=.type "tuple")(hd:o.data=.seq #[] n)(h:∀ v∈vs,TupAt s.heap v)(q:Q Ô2 s):Ï (Ô P w) A (keyKind' (Ä8 a::vs).toArray) Q E s:=by
 obtain⟨fs,hf⟩:=O00 (P:=P) (w:=w) (A:=A) (E:=E) vs h;rw[keyKind'_eq,List.mapM_toArray,map_eq_pure_bind,mapM_cons];refine À (À (À (Y00 ho hc hd (À (hf _ (Æ (Æ ?_)))))));rw[if_neg (by simp),if_neg (by simp)]
 rw[oneTypeOnly'_eq,List.mapM_toArray,map_eq_pure_bind];refine À (À (À (kas_mapM (r:=.type "tuple") _ (λv hv Q' hq=>?_) (Æ ?_))))
 ·have:TupAt s.heap v:=by
   rcases ü.mp hv with rfl | hv
   ·exact⟨_,_,_,_,rfl,ho,hc,hd⟩
   ·exact h v hv
  obtain⟨b,o',xs,m,rfl,ho',hc',_⟩:=this;rw[← hc'] at hq;exact Ù5 (show PySem.W.Looks (Ô P w) s.heap (typeOf (.ref b)) o'.cls from(Ñ3 ho').andThen .now) hq
 ·have hall:((List.map (λ_=>Â4 "tuple") (Ä8 a::vs)).toArray.all λx=>x == Â4 "tuple")=true:=by
   simp only[List.all_toArray,all_map,Å5];intro _ _;rfl
  have h0:(List.map (λ_=>Â4 "tuple") (Ä8 a::vs)).toArray[0]?=some (Â4 "tuple"):=by simp
  rw[h0];simp only[hall,if_true];exact Æ (Æ q)
theorem b42(hl:Ê5 s.heap l i1)(hb:Ê5 s.heap b i2)(hu:A.units < Å0)(hx:Lx A.in1 s i1.toList i2.toList c)(q:Q c s):Ï (Ô P w) A (keyLt' Ô2 (.ref l) (.ref b)) Q E s:=by
 obtain⟨⟨cls,dd,data,sl⟩,ho,hc,n,hd⟩:=id hl;obtain⟨⟨cls2,dd2,data2,sl2⟩,ho2,hc2,n2,hd2⟩:=id hb;simp only at hc hd hc2 hd2;subst hc hd hc2 hd2;rw[keyLt'_oneType,oneLt'_eq];simp only[if_true];refine À (wpAny_cRoomFor hu (À (wpAny_callSpecialIfBound?_slot ⟨_,ho,rfl⟩ Î9 (Æ3 Î9 ⟨_,ho,rfl⟩ Ú9 (Ú2 _ _) (A80 l b i1 i2 n n2 dd dd2 sl sl2 c) ⟨ho,ho2,hx,?_⟩))));exact Á0 q
theorem b52(h8:k<=8)(hd:d80 s.heap us (g20 k))(hu:A.units + 40 < Å0):MySort.Y31 P w A s us (λp=>p=TS.sN k) Ô2 where
 len:=by rw[hd.len,g20,Ë,ð];exact Ò (À0 (-0) h8) (-0)
 few h2:=by
  rw[hd.len,g20,Ë,ð] at h2 ⊢;cases k with
  |zero=>rfl|succ k=>have:=Nat.one_le_two_pow (n:=k);rw[Õ6] at h2;omega
 all p hp:=by subst hp;rw[hd.len,g20,Ë,ð,b22 h8]
 kind h2 E Q q:=by
  have ht:∀ i v,us[i]?=some v->∃ xs n a o,v=.ref a/\s.heap.get? a=some o/\o.cls=.type "tuple"/\o.data=.seq xs n/\(i=0->xs=#[]):=λi v e=>by
   have hi:i < us.length:=(Þ.mp e).1;have hi':i < 2 ^ k:=by rw[hd.len,g20,Ë,ð] at hi;exact hi
   obtain⟨_,as,r⟩:=hd.get (s20 hi');have e2:us.getD i á=v:=by rw[Ü,e];rfl
   rw[e2] at r;have z0:∀ k,TS.A10 k 0 0=[]:=λk=>by
    have:∀ k i,TS.A10 k i 0=[]:=λk=>by
     induction k with
     |zero=>exact λ_=>rfl|succ k ih=>exact λi=>ih (i + 1)
    exact this k 0
   cases i with
   |zero =>
    have r:Reads s.heap v (toP (.tup ((TS.A10 k 0 0).map λ(i:Nat)=>.int i))) as:=r;rw[z0] at r;cases r with
    | @tuple a o vs n xs as k1 k2 k3 k4 =>
     have:vs.toList=[]:=by cases hv:vs.toList with | nil=>rfl | cons _ _=>rw[hv] at k4;cases k4
     exact⟨vs,n,a,o,rfl,k1,k2,k3,λ_=>Array.toList_eq_nil_iff.mp this⟩
   |succ i =>
    cases r with
    | @tuple a o vs n xs as k1 k2 k3 k4=>exact⟨vs,n,a,o,rfl,k1,k2,k3,λe=>by cases e⟩
  match us,ht with
  |[],_=>simp at h2
  |v::vs,ht =>
   obtain⟨xs,n,a,o,rfl,h1,h3,h4,h5⟩:=ht 0 v rfl;cases h5 rfl;refine O01 h1 h3 h4 (λu hu=>?_) q;obtain⟨i,hi,rfl⟩:=List.mem_iff_getElem.mp hu;obtain⟨xs,n,a,o,e,h1,h3,h4,_⟩:=ht (i + 1) vs[i] (by simp[hi])
   exact⟨a,o,xs,n,e,h1,h3,h4⟩
 run h2:=by
  have hl:us.length=2 ^ k:=by rw[hd.len,g20,Ë,ð]
  have h1:1<=k:=by
   cases k with
   |zero=>rw[hl] at h2;exact absurd h2 (-0)|succ k=>omega
  refine TS.runL h1 h8 hl λi j C hi hj hC=>?_;have e1:=kas_item_eq us i;have e2:=kas_item_eq us j;show Ï (Ô P w) A (keyLt' Ô2 (é (pairsOf us) i).1 (é (pairsOf us) j).1) C _ s;rw[e1,e2];obtain⟨f1,as,r1⟩:=hd.get (s20 hi);obtain⟨f2,bs,r2⟩:=hd.get (s20 hj);show Ï (Ô P w) A (keyLt' Ô2 (us.getD i á) (us.getD j á)) C _ s;generalize us.getD i á=v at r1;generalize us.getD j á=u at r2;cases r1 with
  |tuple p1 p2 p3 p4 =>
   cases r2 with
   |tuple q1 q2 q3 q4 =>
    refine b42 ⟨_,p1,p2,_,p3⟩ ⟨_,q1,q2,_,q3⟩ ∅ ((N41 40).2 _ _ _ _ _ ?_ ⟨f1,_,p4⟩ ⟨f2,_,q4⟩ (l61 _ _) ∅) hC
    have:∀ l:List Nat,l60 (l.map λ(i:Nat)=>.int i)=0:=λl=>by
     induction l with
     |nil=>rfl|cons x r ih=>show Nat.max 0 _=0;rw[ih];rfl
    rw[this];decide
end
section
variable {X:Cx}
theorem O11{zA:Option Ç}{H:Hp}{k:Nat}{xs:List V}(hu:X.A.units + 64 < Å0)(hd:HdA X.K H (g20 k) xs)(h8:k<=8):L71 X H xs (λp=>p=TS.sN k):=by
 intro pins σ s us I rv;have ci:∀ l:List Nat,g60 (l.map λ(i:Nat)=>.int i)=true/\Q60 (l.map λ(i:Nat)=>.int i) (l.map λ(i:Nat)=>.int i)=true:=λl=>by
  induction l with
  |nil=>exact⟨rfl,rfl⟩|cons x r ih=>exact⟨ih.1,by show((x:Int) == (x:Int)&&_)=true;rw[ih.2];simp⟩
 have cl:∀ l:List Nat,g60 (l.map (k00 k))=true/\Q60 (l.map (k00 k)) (l.map (k00 k))=true:=λl=>by
  induction l with
  |nil=>exact⟨rfl,rfl⟩
  |cons x r ih =>
   refine⟨?_,?_⟩
   ·show(g60 _&&_)=true;rw[(ci _).1,ih.1];rfl
   ·show(Q60 _ _&&_)=true;rw[(ci _).2,ih.2];rfl
 obtain⟨as,ra⟩:=A70 I hd rv (cl _).1;exact⟨Ô2,λh' kp=>b52 h8 ⟨(cl _).1,_,m30 kp _ (cl _).2 ra⟩ (by show X.A.units + 1 + 1 + 40 < Å0;omega)⟩
theorem O21{zA:Option Ç}{H:Hp}{l:List D}{xs:List V}(hu:X.A.units + 64 < Å0)(hd:HdA X.K H l xs)(h64:l.length < 64)(ok:p10 l=true):L71 X H xs (MySort.sortedBy (l.map flt)):=by
 intro pins σ s us I rv
 replace h64:us.length < 64:=by rw[← rv.length,hd.length];exact h64
 have all:∀ x∈l,k41 x < 3/\okD x=true/\∀ y∈l,j30 x y=true:=λx hx=>by
  have:=ï.mp ok x hx;rw[Á,Á,decide_eq_true_eq,Å5] at this;exact⟨this.1,this.2.1,this.2.2⟩
 have hf:g60 l=true:=by
  clear hd
  induction l with
  |nil=>rfl
  |cons x r ih =>
   have h1:=(s10 (all x Ð).2.1).1;show(x30 x&&g60 r)=true;rw[h1];have ok':p10 r=true:=ï.mpr λy hy=>by
    obtain⟨a,b,c⟩:=all y (Ì _ hy);rw[Á,Á,decide_eq_true_eq,Å5];exact⟨a,b,λz hz=>c z (Ì _ hz)⟩
   exact ih ok' λy hy=>⟨(all y (Ì _ hy)).1,(all y (Ì _ hy)).2.1,λz hz=>(all y (Ì _ hy)).2.2 z (Ì _ hz)⟩
 obtain⟨as,ra⟩:=A70 I hd rv hf;have pure:Q60 l l=true:=by
  clear hd ra hf ok;have:∀ q:List D,(∀ x∈q,eqT x x=true)->Q60 q q=true:=λq=>by
   induction q with
   |nil=>intro _;rfl|cons x r ih=>intro h;show(eqT x x&&Q60 r r)=true;rw[h x Ð,ih λy hy=>h y (Ì _ hy)];rfl
  refine this l λx hx=>?_;have h:=(all x hx).2.2 x hx;unfold j30 at h;rw[Á,Á,Ã3] at h;rcases h.2.2 with k | k
  ·exact k
  ·simp at k
 cases l with
 |nil=>exact⟨kdOf 0,λh' kp=>E71 h64 ⟨hf,_,m30 kp _ pure ra⟩ (by show X.A.units + 1 + 1 + 40 < Å0;omega) (-0) (λx hx=>absurd hx (by simp)) (λx hx=>absurd hx (by simp)) λx hx=>absurd hx (by simp)⟩
 |cons x r =>
  have hx:=all x Ð;exact⟨kdOf (k41 x),λh' kp=>E71 h64 ⟨hf,_,m30 kp _ pure ra⟩ (by show X.A.units + 1 + 1 + 40 < Å0;omega) hx.1 (λy hy=>(T40 (hx.2.2 y hy)).1) (λy hy=>(all y hy).2.1) λy hy=>(all y hy).2.2⟩
theorem l71(hu:X.A.units + 64 < Å0):f70 X (.builtin "sorted") (rDn X.K (bfD .sorted)):=by
 intro pins s σ H xs us Q I r h;obtain⟨zA,z,ds,w,st,hx,e,q⟩:=h
 match ds,e with
 |[x],e =>
  have e:sortedS x=some w:=e;unfold sortedS at e;obtain⟨l,h1,e⟩:=Ê.mp e;obtain⟨v,rfl,hv⟩:=hx.one;have go:∀ (a:Ç) (ys:List V),v=.ref a->(SqL X.K H a ys∨SqT X.K H a ys)->HdA X.K (hz zA H) l ys->Ï (Ô X.prog X.w) X.A (call (.builtin "sorted") us) (EP X pins σ Q) X.xe s:=λa ys hva hq hd=>by
   subst hva;by_cases c:l.length < 64/\p10 l=true
   ·rw[if_pos c] at e;cases e;obtain⟨h64,ok⟩:=c;refine w20 pins s σ H _ us Q I r ⟨a,ys,MySort.sortedBy (l.map flt),rfl,hq,O21 (zA:=zA) hu (hd.same (a20 zA H)) h64 ok,λp hp i hi=>by have:=hp.1.mem_iff.mp hi;rw[hd.length];simpa using this,λp lA hp hn=>?_⟩
    have hd2:=hd.pick (p:=p) λi hi=>by have:=hp.1.mem_iff.mp hi;simpa using this
    rw[N71 (λx hx y hy=>?_) hp] at hd2
    ·exact q _ _ (a30.new _ hn) (p20 st hd2 hn)
    ·have:=ï.mp ok x hx;rw[Á,Á,Å5] at this;exact(T40 (this.2.2 y hy)).2.2
   ·rw[if_neg c] at e;obtain⟨l',e1,rfl⟩:=É.mp e;obtain⟨k,e2,rfl⟩:=É.mp e1;have e3:=T10 _ _ (List.find?_some (p:=λk=>Q60 l (g20 k)) e2);have k8:k<=8:=by have:=List.mem_of_find?_eq_some e2;simp at this;omega
    subst e3;refine w20 pins s σ H _ us Q I r ⟨a,ys,λp=>p=TS.sN k,rfl,hq,O11 (zA:=zA) hu (hd.same (a20 zA H)) k8,λp hp i hi=>?_,λp lA hp hn=>?_⟩
    ·subst hp;rw[hd.length,g20,Ë,ð];exact N91 k8 i hi
    ·subst hp;have hd2:=hd.pick (p:=TS.sN k) λi hi=>by rw[g20,Ë,ð];exact N91 k8 i hi
     rw[b32 k8] at hd2;exact q _ _ (a30.new _ hn) (p20 st hd2 hn)
  cases x with
  |tup m =>
   cases h1;obtain⟨a,ys,rfl,k1,k2⟩:=hv.x90;exact go a ys rfl (.inr ((a20 zA H).sqT k1)) k2
  |lst m =>
   cases h1;obtain⟨a,ys,rfl,k1,k2⟩:=hv.S60;exact go a ys rfl (.inl (k1.same (a20 zA H)).sq) k2
  |_=>cases h1
end
structure Gs where
 fns:List (Str × List Str)
 nums:List (Str × Int)
 F:FT
 cls:Nat->Addr
 lv:Nat
def EPost(G:Gs)(zA:Option Ç)(E:XK)(c:Nat)(z:Z)(H:Hp):Prop:=∀ e H',Ext zA H H'->d60 zA z H'->H' e=none->E (.ref (G.cls c)) (some e) H'
theorem EPost.mono(h:EPost G zA E c z H)(e:Ext zA H H1):EPost G zA E c z H1:=λa H' x s n=>h a H' (e.trans x) s n
def p82(K:Â)(G:Gs)(zA:Option Ç)(E:XK)(H:Hp)(Q:VK):R S->Prop
 |.ok s z'=>∀ v H',Ext zA H H'->d60 zA z' H'->RvS K zA H H' s v->Q v H'|.er c z'=>EPost G zA E c z' H
def T50(K:Â)(G:Gs)(zA:Option Ç)(E:XK)(H:Hp)(Q:VK):R (List S)->Prop
 |.ok l z'=>∃ s,l=[s]/\∀ v H',Ext zA H H'->d60 zA z' H'->RvS K zA H H' s v->Q v H'|.er c z'=>EPost G zA E c z' H
def p92(K:Â)(G:Gs)(zA:Option Ç)(E:XK)(H:Hp)(Q:List V->Hp->Prop):R (List S)->Prop
 |.ok l z'=>∀ vs H',Ext zA H H'->d60 zA z' H'->Ã6 (RvS K zA H H') l vs->Q vs H'|.er c z'=>EPost G zA E c z' H
def z21(G:Gs)(zA:Option Ç)(E:XK)(H:Hp)(Q:Bool->Hp->Prop):R (List S)->Prop
 |.ok l z'=>∃ b,l=[.d (.bl b)]/\∀ H',Ext zA H H'->d60 zA z' H'->Q b H'|.er c z'=>EPost G zA E c z' H
def y10(K:Â)(zA:Option Ç)(H:Hp)(ρ:Env)(σ:L2.St):Prop:=∀ (i:Nat) (s:S),ρ[i]?=some (some s)->∃ v,σ[i]?=some (some v)/\RvP K zA H s v
theorem y10.mono{K:Â}{zA:Option Ç}{H H':Hp}{ρ:Env}{σ:L2.St}(h:y10 K zA H ρ σ)(e:Ext zA H H'):y10 K zA H' ρ σ:=λi s q=>let ⟨v,a,b⟩:=h i s q;⟨v,a,b.mono e⟩
def tI(K:Â)(G:Gs)(E:XK)(x:Ex):TE:=λσ H Q=>∃ zA ρ z r,y10 K zA H ρ σ/\d60 zA z H/\ev G.F x ρ z=some r/\T50 K G zA E H Q r
def tA(K:Â)(G:Gs)(E:XK)(x:Ex):TA:=λσ H Q=>∃ zA ρ z r,y10 K zA H ρ σ/\d60 zA z H/\ev G.F x ρ z=some r/\p92 K G zA E H Q r
def tT(K:Â)(G:Gs)(E:XK)(x:Ex):TT:=λσ H Q=>∃ zA ρ z r,y10 K zA H ρ σ/\d60 zA z H/\ev G.F x ρ z=some r/\z21 G zA E H Q r
def spF(K:Â)(G:Gs)(f n:Nat):Sp:=λvs H Q E=>vs.length=n/\∃ zA z ss r,RvA K zA H ss vs/\d60 zA z H/\G.F false f ss z=some r/\p82 K G zA E H Q r
section
variable {K:Â}{G:Gs}{E:XK}{a x:Ex}{ρ:Env}{z:Z}{zA:Option Ç}{σ:L2.St}{H:Hp}
theorem g90{α:Type}{k:List S->M α}{r:R α}{Q':VK}(rel:y10 K zA H ρ σ)(st:d60 zA z H)(h:M.bind (ev G.F a ρ) k z=some r)(her:∀ c z1,r=.er c z1->EPost G zA E c z1 H)
  (hok:∀ l z1,k l z1=some r->∃ s,l=[s]/\∀ v H1,Ext zA H H1->d60 zA z1 H1->RvS K zA H H1 s v->Q' v H1):tI K G E a σ H Q':=by
 rcases M.bind_some h with ⟨l,z1,e1,e2⟩ | ⟨c,z1,e1,e2⟩
 ·exact⟨zA,ρ,z,_,rel,st,e1,hok l z1 e2⟩
 ·exact⟨zA,ρ,z,_,rel,st,e1,her c z1 e2⟩
theorem e01{α:Type}{k:List S->M α}{r:R α}{Q':List V->Hp->Prop}(rel:y10 K zA H ρ σ)(st:d60 zA z H)(h:M.bind (ev G.F a ρ) k z=some r)(her:∀ c z1,r=.er c z1->EPost G zA E c z1 H)
  (hok:∀ l z1,k l z1=some r->∀ vs H1,Ext zA H H1->d60 zA z1 H1->Ã6 (RvS K zA H H1) l vs->Q' vs H1):tA K G E a σ H Q':=by
 rcases M.bind_some h with ⟨l,z1,e1,e2⟩ | ⟨c,z1,e1,e2⟩
 ·exact⟨zA,ρ,z,_,rel,st,e1,hok l z1 e2⟩
 ·exact⟨zA,ρ,z,_,rel,st,e1,her c z1 e2⟩
theorem O10{α:Type}{k:Bool->M α}{r:R α}{Q':Bool->Hp->Prop}(rel:y10 K zA H ρ σ)(st:d60 zA z H)(h:M.bind (ev G.F a ρ) (λx=>M.bind (M.of ((pl x).bind asB)) k) z=some r)(her:∀ c z1,r=.er c z1->EPost G zA E c z1 H)
  (hok:∀ b z1,k b z1=some r->∀ H1,Ext zA H H1->d60 zA z1 H1->Q' b H1):tT K G E a σ H Q':=by
 rcases M.bind_some h with ⟨l,z1,e1,e2⟩ | ⟨c,z1,e1,e2⟩
 ·obtain⟨b,e3,e4⟩:=M.a10 e2;obtain⟨d,e5,e6⟩:=Ê.mp e3;have el:l=[.d (.bl b)]:=by
   obtain⟨s,rfl,hs⟩:=e60 e5;cases s with
   |d y=>cases hs;cases d <;> first | (cases e6;rfl) | cases e6
   |fr ys=>cases hs;cases e6
   |_=>cases hs
  exact⟨zA,ρ,z,_,rel,st,e1,b,el,hok b z1 e4⟩
 ·exact⟨zA,ρ,z,_,rel,st,e1,her c z1 e2⟩
theorem B00{l:List S}{s:S}(h:one l=some s):l=[s]:=by
 unfold one at h;split at h
 ·cases h;rfl
 ·cases h
end
theorem PE.imp(h:PE X e t)(i:∀ σ H Q,t' σ H Q->t σ H Q):PE X e t':=λpins s σ H Q I q=>h pins s σ H Q I (i _ _ _ q)
theorem PT.imp(h:PT X e t)(i:∀ σ H Q,t' σ H Q->t σ H Q):PT X e t':=λpins s σ H Q I q=>h pins s σ H Q I (i _ _ _ q)
theorem PW.imp(h:PW X e t)(i:∀ σ H Q,t' σ H Q->t σ H Q):PW X e t':=λw pins s σ H Q I q=>h w pins s σ H Q I (i _ _ _ q)
theorem PA.imp(h:PA X e t)(i:∀ σ H Q,t' σ H Q->t σ H Q):PA X e t':=λp pins s σ H Q I q=>h p pins s σ H Q I (i _ _ _ q)
def noStar:Í->Bool
 |.Starred ..=>false|_=>true
theorem c30(h:noStar e=true)(es:List Í)(env:Å9):ù (e::es) env=(false,eval e env)::ù es env:=by
 cases e <;> first | rfl | cases h
theorem s30:∀ {es:List Í} (env:Å9) (pos:Pos),es.all noStar=true->(Ò0 pos (ù es env)).any (·.1)=false
 |[],_,_,_=>rfl
 |e::es,env,pos,h=>by
  rw[Ã5,Á] at h;rw[c30 h.1];show(false || (Ò0 pos (ù es env)).any (·.1))=false;rw[s30 env pos h.2];rfl
def plainT:Í->Bool
 |.UnaryOp .Not _ _=>false|.BoolOp ..=>false|.IfExp ..=>false|.Compare ..=>false|_=>true
theorem l81(h:plainT e=true)(env:Å9)(whole:Sem Ã):isTrue e env whole=(do let v ← whole;standAt e.pos;holding [v] (truthy v)):=by
 cases e with
 |UnaryOp op _ _=>cases op <;> first | rfl | cases h
 |BoolOp _ _ _=>cases h
 |IfExp _ _ _ _=>cases h
 |Compare _ _ _ _=>cases h
 |_=>rfl
def B10:Í->Bool
 |.Slice ..=>false|_=>true
theorem E10(h:B10 e=true):h41 e:=λo i=>by
 cases e with
 |Slice _ _ _ _=>cases h
 |_=>rfl
def x40:Í->Bool
 |.Set ..=>false|_=>true
theorem l91(h:x40 e=true)(op:CmpOp):behindInMarks op e=false:=by
 cases e with
 |Set _ _ _=>cases h
 |_=>rfl
structure a70(X:Cx)(G:Gs)(E:XK)(x:Ex)(e:Expr):Prop where
 pe:PE X e (tI X.K G E x)
 pt:(∀ t a b p,e≠.IfExp t a b p)->PT X e (tT X.K G E x)
 pw:∀ op vs p,e=.BoolOp op vs p->PW X e (tT X.K G E x)
theorem a90(h:PE X e (tI X.K G E x))(hp:plainT e=true):a70 X G E x e:=by
 refine⟨h,λ_=>PT.imp (V01 h (l81 hp X.env)) λσ H Q q=>?_,λop vs p he=>?_⟩
 ·obtain⟨zA,ρ,z,r,rel,st,e,po⟩:=q;refine⟨zA,ρ,z,r,rel,st,e,?_⟩;cases r with
  |er c z1=>exact po
  |ok l z1 =>
   obtain⟨b,rfl,po⟩:=po;exact⟨_,rfl,λv H' ex st' rv=>⟨b,Hd.bl_ (show Hd X.K (hz zA H') (.bl b) v from rv),po H' ex st'⟩⟩
 ·subst he;cases hp
def isL:Ex->Bool
 |.nil=>true|.cons _ _=>true|_=>false
def Good(X:Cx)(G:Gs)(E:XK):Ex->List Í->Prop
 |.nil,es=>es=[]|.cons a r,es=>∃ e es',es=e::es'/\noStar e=true/\a70 X G E a e/\isL r=true/\Good X G E r es'|x,es=>∃ e,es=[e]/\a70 X G E x e
theorem Good.args:∀ {x:Ex}{es:List Í},isL x=true->Good X G E x es->PA X es (tA X.K G E x)/\es.all noStar=true:=by
 intro x
 induction x with
 |nil =>
  intro es _ h;have h:es=[]:=h;subst h;refine⟨PA.imp L60 λσ H Q q=>?_,rfl⟩;obtain⟨zA,ρ,z,r,rel,st,e,po⟩:=q;cases e;exact po [] H Ext.refl st .nil
 |cons a r _ ih =>
  intro es _ h;obtain⟨e,es',rfl,ns,g,lr,gr⟩:=h;obtain⟨h1,h2⟩:=ih lr gr;refine⟨PA.imp (l90 g.pe h1 (c30 ns es' X.env)) λσ H Q q=>?_,by rw[Ã5,ns,h2];rfl⟩
  obtain⟨zA,ρ,z,rr,rel,st,e,po⟩:=q;have her:∀ c z1,rr=.er c z1->EPost G zA E c z1 H:=λc z1 e=>by subst e;exact po
  refine g90 rel st e her λl z1 e1=>?_;obtain⟨s,hs,e2⟩:=M.a10 e1;refine⟨s,B00 hs,λv H1 x1 st1 rv=>?_⟩;refine e01 (rel.mono x1) st1 e2 (λc z2 q=>(her c z2 q).mono x1) λl2 z2 e3 vs H2 x2 st2 rvs=>?_;cases e3;exact po (v::vs) H2 (x1.trans x2) st2 (.cons (rv.mono x2) (Ã6.T51 rvs λ_ _ q=>q.from x1))
 |_=>intro es h;cases h
def O31:List Str:=["len","sorted","tuple","list","sum","min","max","abs","all","any","int","bool","str","isinstance","range","zip","enumerate","set"]
structure XI(lm:Bool)(X:Cx)(G:Gs)(E:XK)(N:List Str)(sc:Scope):Prop where
 gok:∀ f nm ps,G.fns[f]?=some (nm,ps)->∃ fa fd,X.mg nm=some (.ref fa)/\PySem.W.keepIn X.K (.ref fa)=true/\Binds X.K fd ps []/\c51 X.prog X.w X.K X.mg X.base (CX1 X.prog X.w) G.lv fa fd ps (spF X.K G f ps.length)
 num:∀ p∈G.nums,∃ t,X.mg p.1=some (.int p.2 t)
 blt:∀ n∈O31,X.mg n=none
 hN:X.N=N
 nd:N.Nodup
 vis:∀ x∈N,Vis X.env.scope x
 glb:∀ x,sc.names.lookup x=some .globalImplicit->Gl X x
 cel:∀ x,(sc.names.lookup x=some .cell∨sc.names.lookup x=some .free)->(X.env.kindOf x=some .cell∨X.env.kindOf x=some .free)
 calm:X.calm=true
 room:Q50 G.lv X.A
 pas:Passes (CX1 X.prog X.w) X E
def glob(sc:À9)(x:Str):Bool:=sc.names.lookup x == some .globalImplicit&&!(x == ("__debug__":Str))&&!(x == ("__name__":Str))
def d20(x:Str):Bool:=!(x == ("__debug__":Str))&&!(x == ("__classdict__":Str))
def b62:Const->D->Bool
 |.int i,.int j=>i == j|.bool a,.bl b=>a == b|.str x,.str y=>x == y|.none,.non=>true|_,_=>false
def bfN:Bf->Str × Bool
 |.len=>("len",false) | .sorted=>("sorted",false) | .tuple=>("tuple",true) | .list=>("list",true) | .sum=>("sum",false) | .min=>("min",false) | .max=>("max",false)|.all=>("all",false) | .int=>("int",true) | .sset=>("sorted",false) | .j92=>("len",false)
def served:Bf->Bool
 |.len | .tuple | .list | .min | .max | .all | .int | .sorted | .sum=>true|_=>false
mutual
noncomputable def g30(N:List Str)(loc:Str->Bool):Pat->Í->Bool
 |.v i=>λe=>match e with
  |.Name x _=>N[i]? == some x&&loc x|_=>false
 |.tup ps=>λe=>match e with
  |.Tuple es _ _=>Y10 N loc ps es|_=>false
 |.nil=>λ_=>false|.cons _ _=>λ_=>false
noncomputable def Y10(N:List Str)(loc:Str->Bool):Pat->List Í->Bool
 |.nil=>λes=>es.isEmpty
 |.cons p r=>λes=>match es with
  |e::es=>noStar e&&g30 N loc p e&&Y10 N loc r es|[]=>false
 |.v _=>λ_=>false|.tup _=>λ_=>false
end
def j40:Í->Bool
 |.Tuple ..=>true|_=>false
def c40:Í->List Str
 |.Name x _=>[x]|.Tuple es _ _=>names es|_=>[]
where names:List Í->List Str
 |[]=>[]|.Name x _::r=>x::names r|.Tuple [.Name a _,.Name b _] _ _::r=>a::b::names r|_::r=>names r
def Y20(csc sc:À9)(N own:List Str)(capt:List (Str × Nat)):Bool :=
 csc.kind == .function&&csc.names.all (λy=>csc.names.lookup y.1 == some y.2)&&csc.names.all (λy=>y.2 != .local || csc.names.lookup y.1 == some .local) &&
  csc.names.all (λy=>y.2 != .free || (sc.names.lookup y.1 == some .cell || sc.names.lookup y.1 == some .free))&&capt.all (λp=>N[p.2]? == some p.1&&csc.names.lookup p.1 == some .free) &&
  own.all (λx=>csc.names.lookup x == some .local || csc.names.lookup x == some .cell)&&decide (own++capt.map (·.1)).Nodup
def d90(N:List Str):List Nat->List (Str × Nat)
 |[]=>[]
 |i::r=>match N[i]? with
  |some x=>(x,i)::d90 N r|none=>d90 N r
def opt{α:Type}(o:Option α)(f:α->Bool):Bool:=match o with
 |some a=>f a|none=>false
theorem a40{α:Type}{o:Option α}{f:α->Bool}(h:opt o f=true):∃ a,o=some a/\f a=true:=by
 cases o with
 |none=>cases h
 |some a=>exact⟨a,rfl,h⟩
def y82:(e:List Í)->Option {q:Str × Pos // e=[.Name q.1 q.2]}
 |[.Name n p]=>some ⟨(n,p),rfl⟩|_=>none
def q02:(e:List Í)->Option {q:Const × Nat × Pos // e=[.Constant q.1 q.2.1 q.2.2]}
 |[.Constant c k p]=>some ⟨(c,k,p),rfl⟩|_=>none
def q12:(e:List Í)->Option {q:Pos // e=[.Dict [] [] q]}
 |[.Dict [] [] p]=>some ⟨p,rfl⟩|_=>none
def q22:(e:List Í)->Option {q:List Í × Nat × Pos // e=[.Tuple q.1 q.2.1 q.2.2]}
 |[.Tuple l k p]=>some ⟨(l,k,p),rfl⟩|_=>none
def q32:(e:List Í)->Option {q:List Í × Pos // e=[.List q.1 q.2]}
 |[.List l p]=>some ⟨(l,p),rfl⟩|_=>none
def q42:(e:List Í)->Option {q:Í × Ë6 × Í × Pos // e=[.BinOp q.1 q.2.1 q.2.2.1 q.2.2.2]}
 |[.BinOp l o r p]=>some ⟨(l,o,r,p),rfl⟩|_=>none
def q52:(e:List Í)->Option {q:Í × CmpOp × Í × Pos // e=[.Compare q.1 [q.2.1] [q.2.2.1] q.2.2.2]}
 |[.Compare l [o] [r] p]=>some ⟨(l,o,r,p),rfl⟩|_=>none
def q62:(e:List Í)->Option {q:Í × Pos // e=[.UnaryOp .USub q.1 q.2]}
 |[.UnaryOp .USub x p]=>some ⟨(x,p),rfl⟩|_=>none
def q72:(e:List Í)->Option {q:Í × Pos // e=[.UnaryOp .Not q.1 q.2]}
 |[.UnaryOp .Not x p]=>some ⟨(x,p),rfl⟩|_=>none
def q82:(e:List Í)->Option {q:Í × Í × List Í × Pos // e=[.BoolOp .And (q.1::q.2.1::q.2.2.1) q.2.2.2]}
 |[.BoolOp .And (l::r::v) p]=>some ⟨(l,r,v,p),rfl⟩|_=>none
def y92:(e:List Í)->Option {q:Í × Í × List Í × Pos // e=[.BoolOp .Or (q.1::q.2.1::q.2.2.1) q.2.2.2]}
 |[.BoolOp .Or (l::r::v) p]=>some ⟨(l,r,v,p),rfl⟩|_=>none
def q92:(e:List Í)->Option {q:Í × Í × Í × Pos // e=[.IfExp q.1 q.2.1 q.2.2.1 q.2.2.2]}
 |[.IfExp t x y p]=>some ⟨(t,x,y,p),rfl⟩|_=>none
def E62:(e:List Í)->Option {q:Í × CmpOp × CmpOp × Í × Í × Pos // e=[.Compare q.1 [q.2.1,q.2.2.1] [q.2.2.2.1,q.2.2.2.2.1] q.2.2.2.2.2]}
 |[.Compare l [o,o2] [r,s] p]=>some ⟨(l,o,o2,r,s,p),rfl⟩|_=>none
def z02:(e:List Í)->Option {q:Str × Pos × Í × List Í × Pos // e=[.Call (.Name q.1 q.2.1) (q.2.2.1::q.2.2.2.1) [] q.2.2.2.2]}
 |[.Call (.Name n q1) (x::l) [] p]=>some ⟨(n,q1,x,l,p),rfl⟩|_=>none
def r02:(e:List Í)->Option {q:Str × Pos × Í × Í × Pos // e=[.Call (.Name q.1 q.2.1) [q.2.2.1,q.2.2.2.1] [] q.2.2.2.2]}
 |[.Call (.Name n q1) [x,ty] [] p]=>some ⟨(n,q1,x,ty,p),rfl⟩|_=>none
def E72:(e:List Í)->Option {q:Í × Í × Pos // e=[.Subscript q.1 q.2.1 q.2.2]}
 |[.Subscript v x p]=>some ⟨(v,x,p),rfl⟩|_=>none
def E82:(e:List Í)->Option {q:Í × Option Í × Option Í × Pos × Pos // e=[.Subscript q.1 (.Slice q.2.1 q.2.2.1 none q.2.2.2.1) q.2.2.2.2]}
 |[.Subscript v (.Slice l h none q1) p]=>some ⟨(v,l,h,q1,p),rfl⟩|_=>none
def r12:(e:List Í)->Option {q:Í × Nat × Pos × Pos × Pos × Pos // e=[.Subscript q.1 (.Slice none none (some (.UnaryOp .USub (.Constant (.int 1) q.2.1 q.2.2.1) q.2.2.2.1)) q.2.2.2.2.1) q.2.2.2.2.2]}
 |[.Subscript v (.Slice none none (some (.UnaryOp .USub (.Constant (.int 1) k q1) q2)) q3) p]=>some ⟨(v,k,q1,q2,q3,p),rfl⟩|_=>none
def b72:(e:List Í)->Option {q:Í × Í × Í × List Í × À9 × Pos // e=[.ListComp q.1 [⟨q.2.1,q.2.2.1,q.2.2.2.1,0⟩] q.2.2.2.2.1 q.2.2.2.2.2]}
 |[.ListComp elt [⟨tg,iter,ifs,0⟩] csc p]=>some ⟨(elt,tg,iter,ifs,csc,p),rfl⟩|_=>none
def U01:(e:Í)->Option {q:Str × Pos × Í × Pos // e=.Call (.Name q.1 q.2.1) [q.2.2.1] [] q.2.2.2}
 |.Call (.Name n q1) [a] [] p=>some ⟨(n,q1,a,p),rfl⟩|_=>none
def U11:(e:Í)->Option {q:Str × Pos × Í × Í × Pos // e=.Call (.Name q.1 q.2.1) [q.2.2.1,q.2.2.2.1] [] q.2.2.2.2}
 |.Call (.Name n q1) [a,b] [] p=>some ⟨(n,q1,a,b,p),rfl⟩|_=>none
def shN:(e:Í)->Option {q:Str × Pos // e=.Name q.1 q.2}
 |.Name n p=>some ⟨(n,p),rfl⟩|_=>none
def z12:(e:Í)->Option {q:Str × Pos × Str × Pos × Nat × Pos // e=.Tuple [.Name q.1 q.2.1,.Name q.2.2.1 q.2.2.2.1] q.2.2.2.2.1 q.2.2.2.2.2}
 |.Tuple [.Name a q1,.Name b q2] k p=>some ⟨(a,q1,b,q2,k,p),rfl⟩|_=>none
def E92:(e:List Í)->Option {q:Str × Pos × Int × Nat × Pos × Pos // e=[.Subscript (.Name q.1 q.2.1) (.Constant (.int q.2.2.1) q.2.2.2.1 q.2.2.2.2.1) q.2.2.2.2.2]}
 |[.Subscript (.Name n p) (.Constant (.int j) c q1) r]=>some ⟨(n,p,j,c,q1,r),rfl⟩|_=>none
def F02:(e:List Í)->Option {q:Str × Pos × Str × Pos × List Í × Pos × Pos // e=[.Call (.Name q.1 q.2.1) [.Call (.Name q.2.2.1 q.2.2.2.1) q.2.2.2.2.1 [] q.2.2.2.2.2.1] [] q.2.2.2.2.2.2]}
 |[.Call (.Name n p) [.Call (.Name m q1) l [] r] [] t]=>some ⟨(n,p,m,q1,l,r,t),rfl⟩|_=>none
def tyE(sc:À9):Ty->Í->Bool
 |.seq=>λe=>opt (z12 e) λq=>q.1.1 == ("tuple":Str)&&q.1.2.2.1 == ("list":Str)&&glob sc "tuple"&&glob sc "list"|t=>λe=>opt (shN e) λq=>q.1.1 == À8 (tyN t)&&glob sc (À8 (tyN t))
def b82:D->Bool
 |.dct=>true|_=>false
def ifB:Í->Bool
 |.IfExp ..=>true|_=>false
def mt:Bool->List (Str × List Str)->List (Str × Int)->Ex->À9->List Str->List Í->Bool
 |lm,fns,nums,.nil=>λ_ _ es=>es.isEmpty
 |lm,fns,nums,.cons a r=>λsc N es=>match es with
  |e::es=>noStar e&&!isL a&&isL r&&mt lm fns nums a sc N [e]&&mt lm fns nums r sc N es|[]=>false
 |lm,fns,nums,.var i=>λ_ N es=>opt (y82 es) λq=>N[i]? == some q.1.1&&d20 q.1.1|lm,fns,nums,.con d=>λ_ _ es=>(opt (q02 es) λq=>b62 q.1.1 d) || opt (q12 es) λ_=>b82 d|lm,fns,nums,.gint g i=>λsc _ es=>opt (y82 es) λq=>q.1.1 == g&&glob sc q.1.1&&nums.contains (g,i)|lm,fns,nums,.tup as=>λsc N es=>opt (q22 es) λq=>isL as&&mt lm fns nums as sc N q.1.1|lm,fns,nums,.lst as=>λsc N es=>opt (q32 es) λq=>isL as&&mt lm fns nums as sc N q.1.1|lm,fns,nums,.bin o a b=>λsc N es=>opt (q42 es) λq=>q.1.2.1 == opB o&&!isL a&&!isL b&&mt lm fns nums a sc N [q.1.1]&&mt lm fns nums b sc N [q.1.2.2.1]|lm,fns,nums,.cmp o a b=>λsc N es=>opt (q52 es) λq=>q.1.2.1 == opC o&&x40 q.1.2.2.1&&!isL a&&!isL b&&mt lm fns nums a sc N [q.1.1]&&mt lm fns nums b sc N [q.1.2.2.1]|lm,fns,nums,.neg a=>λsc N es=>opt (q62 es) λq=>!isL a&&mt lm fns nums a sc N [q.1.1]|lm,fns,nums,.not a=>λsc N es=>opt (q72 es) λq=>!isL a&&!ifB q.1.1&&mt lm fns nums a sc N [q.1.1]|lm,fns,nums,.and a b=>λsc N es=>opt (q82 es) λq=>!isL a&&!isL b&&!ifB q.1.1&&mt lm fns nums a sc N [q.1.1]&&(if q.1.2.2.1.isEmpty then !ifB q.1.2.1&&mt lm fns nums b sc N [q.1.2.1] else mt lm fns nums b sc N [.BoolOp .And (q.1.2.1::q.1.2.2.1) q.1.2.2.2])|lm,fns,nums,.or a b=>λsc N es=>opt (y92 es) λq=>!isL a&&!isL b&&!ifB q.1.1&&mt lm fns nums a sc N [q.1.1]&&(if q.1.2.2.1.isEmpty then !ifB q.1.2.1&&mt lm fns nums b sc N [q.1.2.1] else mt lm fns nums b sc N [.BoolOp .Or (q.1.2.1::q.1.2.2.1) q.1.2.2.2])|lm,fns,nums,.orT a b=>λsc N es=>opt (y92 es) λq=>!isL a&&!isL b&&q.1.2.2.1.isEmpty&&mt lm fns nums a sc N [q.1.1]&&mt lm fns nums b sc N [q.1.2.1]|lm,fns,nums,.ite c a b=>λsc N es=>opt (q92 es) λq=>!isL c&&!isL a&&!isL b&&!ifB q.1.1&&mt lm fns nums c sc N [q.1.1]&&mt lm fns nums a sc N [q.1.2.1]&&mt lm fns nums b sc N [q.1.2.2.1]|lm,fns,nums,.ch o o' a b c=>λsc N es=>opt (E62 es) λq=>q.1.2.1 == opC o&&q.1.2.2.1 == opC o'&&x40 q.1.2.2.2.2.1&&!isL a&&!isL b&&!isL c&&mt lm fns nums a sc N [q.1.1]&&mt lm fns nums b sc N [q.1.2.2.2.1]&&mt lm fns nums c sc N [q.1.2.2.2.2.1]|lm,fns,nums,.bf f as=>λsc N es=>opt (z02 es) λq=>served f&&q.1.1 == (bfN f).1&&glob sc q.1.1&&isL as&&mt lm fns nums as sc N (q.1.2.2.1::q.1.2.2.2.1)|lm,fns,nums,.isi t a=>λsc N es=>opt (r02 es) λq=>q.1.1 == ("isinstance":Str)&&glob sc q.1.1&&noStar q.1.2.2.1&&!isL a&&mt lm fns nums a sc N [q.1.2.2.1]&&tyE sc t q.1.2.2.2.1|lm,fns,nums,.idx a i=>λsc N es=>opt (E72 es) λq=>B10 q.1.2.1&&!isL a&&!isL i&&mt lm fns nums a sc N [q.1.1]&&mt lm fns nums i sc N [q.1.2.1]|lm,fns,nums,.sl a lo hi=>λsc N es=>opt (E82 es) λq=>!isL a&&isL lo&&isL hi&&mt lm fns nums a sc N [q.1.1]&&mt lm fns nums lo sc N q.1.2.1.toList&&mt lm fns nums hi sc N q.1.2.2.1.toList|lm,fns,nums,.rev a=>λsc N es=>opt (r12 es) λq=>!isL a&&mt lm fns nums a sc N [q.1.1]|lm,fns,nums,.call f as=>λsc N es=>opt (z02 es) λq=>(opt fns[f]? λp=>p.1 == q.1.1&&p.2.length == q.1.2.2.2.1.length + 1)&&glob sc q.1.1&&isL as&&mt lm fns nums as sc N (q.1.2.2.1::q.1.2.2.2.1)
 |lm,fns,nums,.comp own capt p it src cond el=>λsc N es=>opt (b72 es) λq =>
   (c40 q.1.2.1).length == own&&(d90 N capt).length == capt.length&&Y20 q.1.2.2.2.2.1 sc N (c40 q.1.2.1) (d90 N capt)&&g30 (c40 q.1.2.1++(d90 N capt).map (·.1)) (λx=>(c40 q.1.2.1).contains x) p q.1.2.1&&isL src&&!isL el&&isL cond&&q.1.2.2.2.1.length<=1&&noStar q.1.1&&x40 q.1.2.2.1 &&
    q.1.2.2.2.1.all (λc=>!ifB c) &&
    (match it with
    |.seq=>mt lm fns nums src sc N [q.1.2.2.1]|.rng1=>opt (U01 q.1.2.2.1) λr=>r.1.1 == ("range":Str)&&glob sc r.1.1&&mt lm fns nums src sc N [r.1.2.2.1]|.rng2=>opt (U11 q.1.2.2.1) λr=>r.1.1 == ("range":Str)&&glob sc r.1.1&&mt lm fns nums src sc N [r.1.2.2.1,r.1.2.2.2.1]|.zip=>opt (U11 q.1.2.2.1) λr=>r.1.1 == ("zip":Str)&&glob sc r.1.1&&j40 q.1.2.1&&mt lm fns nums src sc N [r.1.2.2.1,r.1.2.2.2.1]
    |.enum=>opt (U01 q.1.2.2.1) λr=>r.1.1 == ("enumerate":Str)&&glob sc r.1.1&&j40 q.1.2.1&&mt lm fns nums src sc N [r.1.2.2.1])&&mt false fns nums cond q.1.2.2.2.2.1 (c40 q.1.2.1++(d90 N capt).map (·.1)) q.1.2.2.2.1&&mt false fns nums el q.1.2.2.2.2.1 (c40 q.1.2.1++(d90 N capt).map (·.1)) [q.1.1]
 |lm,fns,nums,.lrng b as=>λsc N es=>opt (F02 es) λq=>q.1.1 == lrN b&&q.1.2.2.1 == ("range":Str)&&glob sc (lrN b)&&glob sc "range"&&isL as&&decide (1<=q.1.2.2.2.2.1.length/\q.1.2.2.2.2.1.length<=2)&&mt lm fns nums as sc N q.1.2.2.2.2.1|lm,fns,nums,.zget i k=>λ_ N es=>opt (E92 es) λq=>N[i]? == some q.1.1&&d20 q.1.1&&q.1.2.2.1 == (k:Int)
theorem d30{sc:À9}{x:Str}(h:glob sc x=true):sc.names.lookup x=some .globalImplicit/\(x == ("__debug__":Str))=false/\x≠"__name__":=by
 unfold glob at h;simp only[Á,ô,beq_iff_eq] at h;refine⟨h.1.1,h.1.2,λe=>?_⟩;subst e;simp at h
section
variable {lm:Bool}{X:Cx}{G:Gs}{E:XK}{N:List Str}{sc:À9}
theorem b92{K:Â}{zA:Option Ç}{H0 H:Hp}{s:S}{v:V}(h:RvP K zA H s v):RvS K zA H0 H (plS s) v:=by cases s <;> exact h
theorem O41(h:(!ifB e)=true):∀ t a b p,e≠.IfExp t a b p:=by
 intro t a b p he;subst he;cases h
theorem a50(hL:isL x=false)(h:Good X G E x [e]):a70 X G E x e:=by
 cases x with
 |nil=>cases hL
 |cons _ _=>cases hL
 |_ =>
  obtain⟨e',h1,h2⟩:=(show ∃ e',[e]=[e']/\a70 X G E _ e' from h);cases h1;exact h2
theorem b50(hL:isL x=false)(h:a70 X G E x e):Good X G E x [e]:=by
 cases x with
 |nil=>cases hL
 |cons _ _=>cases hL
 |_=>exact⟨e,rfl,h⟩
theorem f00(po:T50 X.K G zA E H Q r):∀ c z1,r=.er c z1->EPost G zA E c z1 H:=λc z1 e=>by subst e;exact po
theorem O20(po:z21 G zA E H Q r):∀ c z1,r=.er c z1->EPost G zA E c z1 H:=λc z1 e=>by subst e;exact po
theorem r22(x:XI lm X G E N sc){i:Nat}{n:Str}{pos:Pos}(h1:N[i]?=some n)(h2:d20 n=true):a70 X G E (.var i) (.Name n pos):=by
 unfold d20 at h2;simp only[Á,ô] at h2;refine a90 (PE.imp (z10 (i:=i) (by rw[x.hN];exact h1) (x.vis n (ò h1)) h2.1 h2.2) λσ H Q q=>?_) rfl
 obtain⟨zA,ρ,z,r,rel,st,e,po⟩:=q;have e':(match ρ[i]? with | some (some s)=>M.ret [plS s] | _=>M.no) z=some r:=e
 cases hs:ρ[i]? with
 |none=>rw[hs] at e';cases e'
 |some o =>
  cases o with
  |none=>rw[hs] at e';cases e'
  |some s =>
   rw[hs] at e';cases e';obtain⟨v,hv,rv⟩:=rel i s hs;obtain⟨s',e',po⟩:=po;cases e';exact⟨v,hv,po v H Ext.refl st (b92 rv)⟩
theorem r32(h:b62 c d=true):a70 X G E (.con d) (.Constant c j pos):=by
 refine a90 ?_ rfl;have fin:∀ {v:V},(∀ H,Hd X.K H d v)->∀ σ H Q,tI X.K G E (.con d) σ H Q->tC v σ H Q:=λ{v} hd σ H Q q=>by
  obtain⟨zA,ρ,z,r,rel,st,e,po⟩:=q;cases e;obtain⟨s',e',po⟩:=po;cases e';exact po v H Ext.refl st (u11 (hd _))
 cases c with
 |int i=>cases d <;> first | (simp only[b62,beq_iff_eq] at h;subst h;exact PE.imp W40 (fin λH=>Hd.int)) | (cases h)
 |bool b=>cases d <;> first | (simp only[b62,beq_iff_eq] at h;subst h;exact PE.imp l42 (fin λH=>Hd.bl)) | (cases h)
 |str y=>cases d <;> first | (simp only[b62,beq_iff_eq] at h;subst h;exact PE.imp C81 (fin λH=>Hd.str)) | (cases h)
 |none=>cases d <;> first | exact PE.imp U91 (fin λH=>Hd.non) | (cases h)
 |_=>cases h
theorem r42:a70 X G E (.con .dct) (.Dict [] [] pos):=by
 refine a90 (PE.imp L61 λσ H Q q=>?_) rfl;obtain⟨zA,ρ,z,r,rel,st,e,po⟩:=q;cases e;obtain⟨s',e',po⟩:=po;cases e';intro p hp;refine po _ _ (Ext.of (a30.new _ hp)) (st.same (a30.new _ hp)) (u11 ?_);unfold Hd;exact⟨p,[],rfl,c90 c20 (st.l01 hp)⟩
theorem c02(x:XI lm X G E N sc){g:Str}{i:Int}{pos:Pos}(h1:glob sc g=true)(h2:(g,i)∈G.nums):a70 X G E (.gint g i) (.Name g pos):=by
 obtain⟨k1,k2,_⟩:=d30 h1;obtain⟨t,ht⟩:=x.num _ h2;refine a90 (PE.imp (I01 (v:=.int i) (x.glb g k1) ht ⟨t,rfl⟩ k2) λσ H Q q=>?_) rfl;obtain⟨zA,ρ,z,r,rel,st,e,po⟩:=q;cases e;obtain⟨s',e',po⟩:=po;cases e';exact po _ H Ext.refl st g80
theorem C90{K:Â}{zA:Option Ç}{H0 H:Hp}{l:List S}{vs:List V}{ds:List D}(h:Ã6 (RvS K zA H0 H) l vs)(e:plA l=some ds):HdA K (hz zA H) ds vs:=RvA.ds (Ã6.T51 h λ_ _ q=>q.pl) e
theorem r52{as:Ex}{l:List Í}{k:Nat}{pos:Pos}(hL:isL as=true)(g:Good X G E as l):a70 X G E (.tup as) (.Tuple l k pos):=by
 refine a90 (PE.imp (D41 (g.args hL).1) λσ H Q q=>?_) rfl;obtain⟨zA,ρ,z,r,rel,st,e,po⟩:=q;refine e01 rel st e (f00 po) λl z1 e1 vs H1 x1 st1 rvs=>?_;obtain⟨ds,hd,e2⟩:=M.a10 e1;split at e2
 ·rename_i hm;cases e2;obtain⟨s',e',po⟩:=po;cases e';have h:=C90 rvs hd;exact⟨f50 (by rw[h.length];exact hm),λp hp=>po _ _ (x1.trans (Ext.of (a30.new _ hp))) (st1.same (a30.new _ hp)) (u11 (Hd.tup ((st1.same (a30.new _ hp)).M41 (SqT.of c20)) (h.same (i60 (a30.new _ hp)))))⟩
 ·cases e2
theorem r62{as:Ex}{l:List Í}{pos:Pos}(hL:isL as=true)(g:Good X G E as l):a70 X G E (.lst as) (.List l pos):=by
 refine a90 (PE.imp (X31 (g.args hL).1) λσ H Q q=>?_) rfl;obtain⟨zA,ρ,z,r,rel,st,e,po⟩:=q;refine e01 rel st e (f00 po) λl z1 e1 vs H1 x1 st1 rvs=>?_;obtain⟨ds,hd,e2⟩:=M.a10 e1;split at e2
 ·rename_i hm;cases e2;obtain⟨s',e',po⟩:=po;cases e';have h:=C90 rvs hd;exact⟨f50 (by rw[h.length];exact hm),λp hp=>po _ _ (x1.trans (Ext.of (a30.new _ hp))) (st1.same (a30.new _ hp)) ((p20 st1 h hp).from x1)⟩
 ·cases e2
theorem Y30{α:Type}{a b:Ex}{k:D->D->M α}{zA:Option Ç}{ρ:Env}{z:Z}{r:R α}{σ:L2.St}{H:Hp}{Q:V->V->Hp->Prop}(rel:y10 X.K zA H ρ σ)(st:d60 zA z H)
  (h:M.bind (ev G.F a ρ) (λx=>M.bind (M.of (pl x)) λx=>M.bind (ev G.F b ρ) λy=>M.bind (M.of (pl y)) λy=>k x y) z=some r) (her:∀ c z1,r=.er c z1->EPost G zA E c z1 H)
  (hk:∀ dx dy z2 v w H2,k dx dy z2=some r->Ext zA H H2->d60 zA z2 H2->Hd X.K (hz zA H2) dx v->Hd X.K (hz zA H2) dy w->Q v w H2) :
  tI X.K G E a σ H λv H1=>tI X.K G E b σ H1 λw H2=>Q v w H2:=by
 refine g90 rel st h her λl z1 e1=>?_;obtain⟨dx,p1,e2⟩:=M.a10 e1;obtain⟨s1,rfl,q1⟩:=e60 p1;refine⟨s1,rfl,λv H1 x1 st1 rv=>?_⟩;refine g90 (rel.mono x1) st1 e2 (λc z2 q=>(her c z2 q).mono x1) λm z2 e3=>?_;obtain⟨dy,p2,e4⟩:=M.a10 e3;obtain⟨s2,rfl,q2⟩:=e60 p2;exact⟨s2,rfl,λw H2 x2 st2 rw'=>hk dx dy z2 v w H2 e4 (x1.trans x2) st2 ((rv.pl.mono x2).d_ q1) (rw'.pl.d_ q2)⟩
theorem e00{zA:Option Ç}{H H2:Hp}{z2:Z}{s:S}{Q:VK}(po:T50 X.K G zA E H Q (.ok [s] z2))(x:Ext zA H H2)(st:d60 zA z2 H2):∀ v H',a30 H2 H'->RvS X.K zA H2 H' s v->Q v H':=λv H' sm rv=>by
 obtain⟨s',e',po⟩:=po;cases e';exact po v H' (x.trans (Ext.of sm)) (st.same sm) (rv.from x)
theorem r72(ga:a70 X G E a l)(gb:a70 X G E b r):a70 X G E (.bin o a b) (.BinOp l (opB o) r pos):=by
 refine a90 (PE.imp (m92 (opD o) ga.pe gb.pe) λσ H Q q=>?_) rfl;obtain⟨zA,ρ,z,rr,rel,st,e,po⟩:=q;refine Y30 rel st e (f00 po) λdx dy z2 v w H2 e2 x2 st2 h1 h2=>?_;obtain⟨s,hs,e3⟩:=M.a10 e2;cases e3;exact⟨zA,z2,dx,dy,s,st2,h1,h2,hs,e00 po x2 st2⟩
theorem E81(po:z21 G zA E H Q r):T50 X.K G zA E H (λx H'=>∃ k,x=.bl k/\Q k H') r:=by
 cases r with
 |er c z1=>exact po
 |ok l z1 =>
  obtain⟨b,rfl,po⟩:=po;exact⟨_,rfl,λv H' ex st' rv=>⟨b,Hd.bl_ (show Hd X.K (hz zA H') (.bl b) v from rv),po H' ex st'⟩⟩
theorem r82(x:XI lm X G E N sc)(hs:x40 r=true)(ga:a70 X G E a l)(gb:a70 X G E b r):a70 X G E (.cmp o a b) (.Compare l [opC o] [r] pos):=by
 have key:∀ σ H Q,tI X.K G E (.cmp o a b) σ H Q->tOp (rD2 X.K λa b=>(C70 o a b).map λc=>.d (.bl c)) (tI X.K G E a) (tI X.K G E b) σ H Q:=λσ H Q q=>by
  obtain⟨zA,ρ,z,rr,rel,st,e,po⟩:=q;refine Y30 rel st e (f00 po) λdx dy z2 v w H2 e2 x2 st2 h1 h2=>?_;obtain⟨c,hc,e3⟩:=M.a10 e2;cases e3;exact⟨zA,z2,dx,dy,_,st2,h1,h2,by show É2 _ (C70 o dx dy)=_;rw[hc];rfl,e00 po x2 st2⟩
 refine⟨PE.imp (I81 (T91 x.room.units o) ga.pe gb.pe (l91 hs _)) key,λ_=>PT.imp (I91 (T91 x.room.units o) ga.pe gb.pe (l91 hs _)) λσ H Q q=>?_,λop vs p h=>by cases h⟩
 obtain⟨zA,ρ,z,rr,rel,st,e,po⟩:=q;exact key σ H _ ⟨zA,ρ,z,rr,rel,st,e,E81 po⟩
theorem r92(ga:a70 X G E a l):a70 X G E (.neg a) (.UnaryOp .USub l pos):=by
 refine a90 (PE.imp (W61 D31 ga.pe) λσ H Q q=>?_) rfl;obtain⟨zA,ρ,z,rr,rel,st,e,po⟩:=q;refine g90 rel st e (f00 po) λm z1 e1=>?_;obtain⟨i,p1,e2⟩:=M.a10 e1;obtain⟨d,p2,p3⟩:=Ê.mp p1;obtain⟨s1,rfl,q1⟩:=e60 p2;cases e2;refine⟨s1,rfl,λv H1 x1 st1 rv=>?_⟩;have hd:=rv.pl.d_ q1;cases d with
 |int j =>
  cases p3;exact⟨i,hd.g70,e00 po x1 st1 _ _ (a30.refl H1) g80⟩
 |_=>cases p3
theorem s02(ga:a70 X G E a l)(hn:∀ t x y p,l≠.IfExp t x y p):a70 X G E (.not a) (.UnaryOp .Not l pos):=by
 refine⟨PE.imp (V61 ga.pe) λσ H Q q=>?_,λ_=>PT.imp (V31 (ga.pt hn)) λσ H Q q=>?_,λop vs p h=>by cases h⟩
 ·obtain⟨zA,ρ,z,rr,rel,st,e,po⟩:=q;refine g90 rel st e (f00 po) λm z1 e1=>?_;obtain⟨b,p1,e2⟩:=M.a10 e1;obtain⟨d,p2,p3⟩:=Ê.mp p1;obtain⟨s1,rfl,q1⟩:=e60 p2;cases e2;refine⟨s1,rfl,λv H1 x1 st1 rv=>?_⟩;have hd:=rv.pl.d_ q1;cases d with
  |bl c =>
   cases p3;exact⟨b,hd.bl_,e00 po x1 st1 _ _ (a30.refl H1) h80⟩
  |_=>cases p3
 ·obtain⟨zA,ρ,z,rr,rel,st,e,po⟩:=q;refine O10 rel st e (O20 po) λb z1 e1 H1 x1 st1=>?_;cases e1;obtain⟨b',e',po⟩:=po;cases e';exact po H1 x1 st1
end
end Q
namespace Q
open PySem L2 PySem.Spec PyProof.Rows
variable [TB:Tb]
section
variable {lm:Bool}{X:Cx}{G:Gs}{E:XK}{N:List Str}{sc:À9}
theorem I00(rel:y10 X.K zA H ρ σ)(st:d60 zA z H)
  (h:M.bind (ev G.F a ρ) (λx=>M.bind (M.of ((pl x).bind asB)) k) z=some r) (her:∀ c z1,r=.er c z1->EPost G zA E c z1 H)
  (hok:∀ b z1,k b z1=some r->∀ H1,Ext zA H H1->d60 zA z1 H1->Q' (.bl b) H1):tI X.K G E a σ H Q':=by
 refine g90 rel st h her λm z1 e1=>?_;obtain⟨b,p1,e2⟩:=M.a10 e1;obtain⟨d,p2,p3⟩:=Ê.mp p1;obtain⟨s1,rfl,q1⟩:=e60 p2;refine⟨s1,rfl,λv H1 x1 st1 rv=>?_⟩;have hd:=rv.pl.d_ q1;cases d with
 |bl c =>
  cases p3;rw[hd.bl_];exact hok b z1 e2 H1 x1 st1
 |_=>cases p3
theorem s12(ga:a70 X G E a l)(hl:∀ t x y p,l≠.IfExp t x y p)
  (gb:a70 X G E b (.BoolOp .And (r::vs) p)):a70 X G E (.and a b) (.BoolOp .And (l::r::vs) p):=by
 have pw:PW X (.BoolOp .And (l::r::vs) p) (tT X.K G E (.and a b)):=by
  refine PW.imp (V21 (ga.pt hl) (gb.pw _ _ _ rfl)) λσ H Q q=>?_;obtain⟨zA,ρ,z,rr,rel,st,e,po⟩:=q;refine O10 rel st e (O20 po) λc z1 e1 H1 x1 st1=>?_;cases c with
  |true =>
   rw[if_pos rfl];rw[if_pos rfl] at e1;refine O10 (rel.mono x1) st1 e1 (λc z2 q=>((O20 po) c z2 q).mono x1) λc z2 e2 H2 x2 st2=>?_;cases e2;obtain⟨b',e',po⟩:=po;cases e';exact po H2 (x1.trans x2) st2
  |false =>
   rw[if_neg Ñ];rw[if_neg Ñ] at e1;cases e1;obtain⟨b',e',po⟩:=po;cases e';exact po H1 x1 st1
 refine⟨PE.imp (V51 ga.pe gb.pe) λσ H Q q=>?_,λ_=>pw.pt,λop vs p h=>pw⟩;obtain⟨zA,ρ,z,rr,rel,st,e,po⟩:=q;refine I00 rel st e (f00 po) λc z1 e1 H1 x1 st1=>⟨c,rfl,?_⟩;cases c with
 |true =>
  rw[if_pos rfl];rw[if_pos rfl] at e1;refine I00 (rel.mono x1) st1 e1 (λc z2 q=>((f00 po) c z2 q).mono x1) λc z2 e2 H2 x2 st2=>?_;cases e2;exact e00 po (x1.trans x2) st2 _ _ (a30.refl H2) h80
 |false =>
  rw[if_neg Ñ];rw[if_neg Ñ] at e1;cases e1;exact e00 po x1 st1 _ _ (a30.refl H1) h80
theorem F12(ga:a70 X G E a l)(hl:∀ t x y p,l≠.IfExp t x y p)
  (gb:a70 X G E b (.BoolOp .Or (r::vs) p)):a70 X G E (.or a b) (.BoolOp .Or (l::r::vs) p):=by
 have pw:PW X (.BoolOp .Or (l::r::vs) p) (tT X.K G E (.or a b)):=by
  refine PW.imp (l52 (ga.pt hl) (gb.pw _ _ _ rfl)) λσ H Q q=>?_;obtain⟨zA,ρ,z,rr,rel,st,e,po⟩:=q;refine O10 rel st e (O20 po) λc z1 e1 H1 x1 st1=>?_;cases c with
  |false =>
   rw[if_neg Ñ];rw[if_neg Ñ] at e1;refine O10 (rel.mono x1) st1 e1 (λc z2 q=>((O20 po) c z2 q).mono x1) λc z2 e2 H2 x2 st2=>?_;cases e2;obtain⟨b',e',po⟩:=po;cases e';exact po H2 (x1.trans x2) st2
  |true =>
   rw[if_pos rfl];rw[if_pos rfl] at e1;cases e1;obtain⟨b',e',po⟩:=po;cases e';exact po H1 x1 st1
 refine⟨PE.imp (l82 ga.pe gb.pe) λσ H Q q=>?_,λ_=>pw.pt,λop vs p h=>pw⟩;obtain⟨zA,ρ,z,rr,rel,st,e,po⟩:=q;refine I00 rel st e (f00 po) λc z1 e1 H1 x1 st1=>⟨c,rfl,?_⟩;cases c with
 |false =>
  rw[if_neg Ñ];rw[if_neg Ñ] at e1;refine I00 (rel.mono x1) st1 e1 (λc z2 q=>((f00 po) c z2 q).mono x1) λc z2 e2 H2 x2 st2=>?_;cases e2;exact e00 po (x1.trans x2) st2 _ _ (a30.refl H2) h80
 |true =>
  rw[if_pos rfl];rw[if_pos rfl] at e1;cases e1;exact e00 po x1 st1 _ _ (a30.refl H1) h80
theorem c12(gb:a70 X G E b r)(hr:∀ t x y p,r≠.IfExp t x y p):a70 X G E b (.BoolOp op [r] p):=by
 have pw:PW X (.BoolOp op [r] p) (tT X.K G E b):=by
  cases op with
  |And=>exact I11 (gb.pt hr)|Or=>exact V11 (gb.pt hr)
 exact⟨V41 gb.pe,λ_=>pw.pt,λ_ _ _ _=>pw⟩
theorem T50.c22(po:T50 X.K G zA E H Q rr)(x1:Ext zA H H1):T50 X.K G zA E H1 Q rr:=by
 cases rr with
 |er c z1=>exact EPost.mono po x1
 |ok l z2 =>
  obtain⟨s,e',po⟩:=po;exact⟨s,e',λv H' x' st' rv=>po v H' (x1.trans x') st' (rv.from x1)⟩
theorem O30{α:Type}{m:M α}{z:Z}{r:R α}(h:M.calm m z=some r):m z=some r/\∃ a z1,r=.ok a z1:=by
 unfold M.calm at h;split at h
 ·rename_i a z1 e;cases h;exact⟨e,a,z1,rfl⟩
 ·cases h
theorem c32(ha:PE X a ta)(hb:PE X b tb):PE X (.BoolOp .Or [a,b] pos) (λσ H Q=>ta σ H λx H1=>∃ t xs,x=.ref t/\SqT X.K H1 t xs/\if xs.isEmpty=true then tb σ H1 Q else Q x H1):=by
 intro pins s σ H Q I h;refine BoolOp_or (thn (ha pins s σ H _ I h) λv s1 ⟨x,H1,I1,r1,q1⟩=>?_);obtain⟨t,xs,rfl,hq,q1⟩:=q1;obtain⟨its,hv,ht,hl⟩:=I1.tuple hq;have hlen:xs.length=its.length:=hv.length;cases r1;refine truthy_tuple ht (by rw[Ó,← hlen];have:=Á6;omega) ?_
 cases xs with
 |nil =>
  cases its with
  |nil=>exact BoolOp_one (hb pins _ σ H1 Q (I1.tok _) q1)|cons _ _=>cases hlen
 |cons y r =>
  cases its with
  |nil=>cases hlen
  |cons _ _=>exact⟨.ref t,H1,I1.tok _,rfl,q1⟩
theorem E91(h:(pl y).bind Z51=some l):∃ s,y=[s]/\plD s=some (.tup l):=by
 obtain⟨d,p2,p3⟩:=Ê.mp h;obtain⟨s1,rfl,q1⟩:=e60 p2;cases d with
 |tup l=>cases p3;exact⟨s1,rfl,q1⟩
 |_=>cases p3
theorem s22(ga:a70 X G E a l)(gb:a70 X G E b r):a70 X G E (.orT a b) (.BoolOp .Or [l,r] p):=by
 have no:∀ {zA:Option Ç}{ρ:Env}{z:Z}{rr:R (List S)}{H:Hp}{Q:Bool->Hp->Prop},ev G.F (.orT a b) ρ z=some rr->z21 G zA E H Q rr->False:=λe po=>by
  obtain⟨e,u,z1,rfl⟩:=O30 e;obtain⟨c,rfl,_⟩:=po;rcases M.bind_some e with ⟨m,z2,_,e2⟩ | ⟨c,z2,_,e2⟩
  ·obtain⟨ds,_,e3⟩:=M.a10 e2;split at e3
   ·rcases M.bind_some e3 with ⟨m,z2,_,e2⟩ | ⟨c,z2,_,e2⟩
    ·obtain⟨ds,_,e3⟩:=M.a10 e2;cases e3
    ·cases e2
   ·cases e3
  ·cases e2
 refine⟨PE.imp (c32 ga.pe gb.pe) λσ H Q q=>?_,λ_ pins s σ H Q I ⟨_,_,_,_,_,_,e,po⟩=>(no e po).elim,λ_ _ _ _ wh pins s σ H Q I ⟨_,_,_,_,_,_,e,po⟩=>(no e po).elim⟩;obtain⟨zA,ρ,z,rr,rel,st,e,po⟩:=q;obtain⟨e,u,z1,rfl⟩:=O30 e;refine g90 rel st e (f00 po) λm z1 e1=>?_;obtain⟨ds,p1,e2⟩:=M.a10 e1;obtain⟨s1,rfl,q1⟩:=E91 p1;refine⟨s1,rfl,λv H1 x1 st1 rv=>?_⟩;have hd:=rv.pl.d_ q1;obtain⟨t,xs,rfl,h1,h2⟩:=hd.x90;refine⟨t,xs,rfl,(a20 zA H1).sqT h1,?_⟩;cases ds with
 |nil =>
  cases h2.e70;have po:=po.c22 x1;refine g90 (rel.mono x1) st1 e2 (f00 po) λm z1 e1=>?_;obtain⟨ds,p1,e2⟩:=M.a10 e1;obtain⟨s1,rfl,q1⟩:=E91 p1;cases e2;exact⟨s1,rfl,λv H2 x2 st2 rv=>e00 po x2 st2 _ _ (a30.refl H2) (rv.pl.d_ q1)⟩
 |cons y r =>
  obtain⟨u,w,rfl,_⟩:=h2.b70;cases e2;exact e00 po x1 st1 _ _ (a30.refl H1) hd
theorem s32(gc:a70 X G E c t)(ht:∀ a b d p,t≠.IfExp a b d p)(ga:a70 X G E a x)(gb:a70 X G E b y):a70 X G E (.ite c a b) (.IfExp t x y p):=by
 refine⟨PE.imp (u51 (gc.pt ht) ga.pe gb.pe) λσ H Q q=>?_,λh=>absurd rfl (h t x y p),λop vs p h=>by cases h⟩
 obtain⟨zA,ρ,z,rr,rel,st,e,po⟩:=q;refine O10 rel st e (f00 po) λk z1 e1 H1 x1 st1=>?_;have po1:=po.c22 x1;cases k with
 |true =>
  rw[if_pos rfl];rw[if_pos rfl] at e1;exact⟨zA,ρ,z1,rr,rel.mono x1,st1,e1,po1⟩
 |false =>
  rw[if_neg Ñ];rw[if_neg Ñ] at e1;exact⟨zA,ρ,z1,rr,rel.mono x1,st1,e1,po1⟩
theorem F22(x:XI lm X G E N sc)(hs:x40 s=true)(ga:a70 X G E a l)(gb:a70 X G E b r)(gc:a70 X G E c s):a70 X G E (.ch o o' a b c) (.Compare l [opC o,opC o'] [r,s] pos):=by
 have hm:lastMarks [opC o,opC o'] [r,s]=false:=l91 hs _;have key:∀ σ H Q,tI X.K G E (.ch o o' a b c) σ H Q->g41 (rD2 X.K λa b=>(C70 o a b).map λc=>.d (.bl c)) (rD2 X.K λa b=>(C70 o' a b).map λc=>.d (.bl c)) (tI X.K G E a) (tI X.K G E b) (tI X.K G E c) σ H Q:=λσ H Q q=>by
  obtain⟨zA,ρ,z,rr,rel,st,e,po⟩:=q;refine Y30 rel st e (f00 po) λdx dy z2 v w H2 e2 x2 st2 h1 h2=>?_;obtain⟨k,hk,e3⟩:=M.a10 e2;refine⟨zA,z2,dx,dy,.d (.bl k),st2,h1,h2,by show É2 _ (C70 o dx dy)=_;rw[hk];rfl,λv3 H3 sm rv=>⟨k,Hd.bl_ (show Hd X.K (hz zA H3) (.bl k) v3 from rv),?_⟩⟩
  have x3:=x2.trans (Ext.of sm);have st3:=st2.same sm;cases k with
  |true =>
   rw[if_pos rfl];rw[if_pos rfl] at e3;refine g90 (rel.mono x3) st3 e3 (λc z2 q=>((f00 po) c z2 q).mono x3) λm z4 e4=>?_;obtain⟨dw,p1,e5⟩:=M.a10 e4;obtain⟨k',hk',e6⟩:=M.a10 e5;obtain⟨s1,rfl,q1⟩:=e60 p1;cases e6;refine⟨s1,rfl,λv4 H4 x4 st4 rv4=>?_⟩;exact⟨zA,z4,dy,dw,_,st4,(h2.same (a30.trans (i60 sm) x4)),rv4.pl.d_ q1,by show É2 _ (C70 o' dy dw)=_;rw[hk'];rfl,e00 po (x3.trans x4) st4⟩
  |false =>
   rw[if_neg Ñ];rw[if_neg Ñ] at e3;cases e3;exact e00 po x3 st3 _ _ (a30.refl H3) h80
 refine⟨PE.imp (u91 (T91 x.room.units o) (T91 x.room.units o') ga.pe gb.pe gc.pe hm) key,λ_=>PT.imp (v01 (T91 x.room.units o) (T91 x.room.units o') ga.pe gb.pe gc.pe hm) λσ H Q q=>?_,λop vs p h=>by cases h⟩
 obtain⟨zA,ρ,z,rr,rel,st,e,po⟩:=q;exact key σ H _ ⟨zA,ρ,z,rr,rel,st,e,E81 po⟩
theorem F01:∀ σ H Q,tI X.K G E (.bf f as) σ H Q->tCB (rDn X.K (bfD f)) (tA X.K G E as) σ H Q:=λσ H Q q=>by
 obtain⟨zA,ρ,z,rr,rel,st,e,po⟩:=q;refine e01 rel st e (f00 po) λl z1 e1 vs H1 x1 st1 rvs=>?_;obtain⟨ds,hd,e2⟩:=M.a10 e1;obtain⟨s,hs,e3⟩:=M.a10 e2;cases e3;exact⟨zA,z1,ds,s,st1,C90 rvs hd,hs,e00 po x1 st1⟩
theorem e11(x:XI lm X G E N sc){f:Bf}{as:Ex}{n:Str}{id:String}{e:Í}{l:List Í}{p pos:Pos}(hc:f70 X (.builtin id) (rDn X.K (bfD f)))(hb:n∈O31)(hv:ë n=some (.builtin id))(hg:glob sc n=true)(hL:isL as=true)(g:Good X G E as (e::l)):a70 X G E (.bf f as) (.Call (.Name n p) (e::l) [] pos):=by
 obtain⟨k1,k2,k3⟩:=d30 hg;obtain⟨ha,hs⟩:=g.args hL;rw[Ã5,Á] at hs;exact a90 (PE.imp (F50 hc (x.glb n k1) (x.blt n hb) hv ha k3 k2 (c30 hs.1 l X.env) (s30 X.env pos hs.2)) F01) rfl
theorem O51(x:XI lm X G E N sc){f:Bf}{as:Ex}{n:Str}{T:String}{e:Í}{l:List Í}{p pos:Pos}(hc:f70 X (.type T) (rDn X.K (bfD f)))(hb:n∈O31)(hv:ë n=some (.type T))(hg:glob sc n=true)(hL:isL as=true)(g:Good X G E as (e::l)):a70 X G E (.bf f as) (.Call (.Name n p) (e::l) [] pos):=by
 obtain⟨k1,k2,k3⟩:=d30 hg;obtain⟨ha,hs⟩:=g.args hL;rw[Ã5,Á] at hs;exact a90 (PE.imp (g81 hc (x.glb n k1) (x.blt n hb) hv ha k3 k2 (c30 hs.1 l X.env) (s30 X.env pos hs.2)) F01) rfl
theorem c42:ë "len"=some (.builtin "len"):=by decide +kernel
theorem m01:ë "sorted"=some (.builtin "sorted"):=by decide +kernel
theorem c52:ë "all"=some (.builtin "all"):=by decide +kernel
theorem c62:ë "sum"=some (.builtin "sum"):=by decide +kernel
theorem c72:ë "min"=some (.builtin "min"):=by decide +kernel
theorem c82:ë "max"=some (.builtin "max"):=by decide +kernel
theorem s40:ë "isinstance"=some (.builtin "isinstance"):=by decide +kernel
theorem c92:ë "int"=some (.type "int"):=by decide +kernel
theorem I10:ë "tuple"=some (.type "tuple"):=by decide +kernel
theorem T60:ë "list"=some (.type "list"):=by decide +kernel
theorem F32(x:XI lm X G E N sc){f:Bf}{as:Ex}{n:Str}{e:Í}{l:List Í}{p pos:Pos}(hf:served f=true)(hn:n=(bfN f).1)(hg:glob sc n=true)(hL:isL as=true)(g:Good X G E as (e::l)):a70 X G E (.bf f as) (.Call (.Name n p) (e::l) [] pos):=by
 subst hn;cases f with
 |len=>exact e11 x a62 (-0) c42 hg hL g|tuple=>exact O51 x y81 (-0) I10 hg hL g|list=>exact O51 x N51 (-0) T60 hg hL g|min=>exact e11 x (a92 x.calm) (-0) c72 hg hL g|max=>exact e11 x (b02 x.calm) (-0) c82 hg hL g|all=>exact e11 x (a72 x.calm) (-0) c52 hg hL g|int=>exact O51 x b12 (-0) c92 hg hL g|sorted=>exact e11 x (l71 x.room.units) (-0) m01 hg hL g|sum=>exact e11 x (a82 x.calm) (-0) c62 hg hL g|_=>cases hf
theorem s42(t:Ty)(h:t≠.seq):À8 (tyN t)∈O31/\ë (À8 (tyN t))=some (.type (tyN t))/\tyN t∈["int","bool","tuple","list","str"]:=by
 cases t with
 |seq=>exact absurd rfl h|_=>decide +kernel
theorem d02(x:XI lm X G E N sc){t:Ty}{a:Ex}{n:Str}{e:Í}{p pos p2:Pos}(hs:t≠.seq)
  (hg2:glob sc (À8 (tyN t))=true) (hn:n="isinstance") (hg:glob sc n=true) (ns:noStar e=true) (ga:a70 X G E a e):a70 X G E (.isi t a) (.Call (.Name n p) [e,.Name (À8 (tyN t)) p2] [] pos):=by
 obtain⟨hb,hv,ht⟩:=s42 t hs;subst hn;obtain⟨k1,k2,k3⟩:=d30 hg;obtain⟨m1,m2,m3⟩:=d30 hg2;refine a90 (PE.imp (F50 x91 (x.glb _ k1) (x.blt _ (-0)) s40 (l90 ga.pe (l90 (R10 (v:=.ty (tyN t)) (x.glb _ m1) (x.blt _ hb) hv rfl m3 m2) L60) (c30 ns _ _)) k3 k2 (c30 ns _ _) rfl) λσ H Q q=>?_) rfl
 obtain⟨zA,ρ,z,rr,rel,st,e,po⟩:=q;refine g90 rel st e (f00 po) λm z1 e1=>?_;obtain⟨d,p1,e2⟩:=M.a10 e1;obtain⟨s1,rfl,q1⟩:=e60 p1;cases e2;refine⟨s1,rfl,λv H1 x1 st1 rv=>⟨d,v,tyN t,rfl,((rv.pl.d_ q1).same (a20 zA H1)).has,ht,?_⟩⟩;rw[N61 t d hs];exact e00 po x1 st1 _ _ (a30.refl H1) h80
theorem d12(x:XI lm X G E N sc){a:Ex}{n:Str}{e:Í}{p pos p1 p2 p3:Pos}{k:Nat}(hg2:glob sc "tuple"=true)(hg3:glob sc "list"=true)(hn:n="isinstance")(hg:glob sc n=true)(ns:noStar e=true)(ga:a70 X G E a e) :
  a70 X G E (.isi .seq a) (.Call (.Name n p) [e,.Tuple [.Name "tuple" p1,.Name "list" p2] k p3] [] pos):=by
 subst hn;obtain⟨k1,k2,k3⟩:=d30 hg;obtain⟨m1,m2,m3⟩:=d30 hg2;obtain⟨l1,l2,l3⟩:=d30 hg3;refine a90 (PE.imp (F50 j51 (x.glb _ k1) (x.blt _ (-0)) s40 (l90 ga.pe (l90 (D41 (l90 (R10 (v:=.ty "tuple") (x.glb _ m1) (x.blt _ (-0)) I10 rfl m3 m2)
  (l90 (R10 (v:=.ty "list") (x.glb _ l1) (x.blt _ (-0)) T60 rfl l3 l2) L60))) L60) (c30 ns _ _)) k3 k2 (c30 ns _ _) rfl) λσ H Q q=>?_) rfl
 obtain⟨zA,ρ,z,rr,rel,st,e,po⟩:=q;refine g90 rel st e (f00 po) λm z1 e1=>?_;obtain⟨d,p1,e2⟩:=M.a10 e1;obtain⟨s1,rfl,q1⟩:=e60 p1;cases e2;refine⟨s1,rfl,λv H1 x1 st1 rv=>⟨by show 2<=sizeLine;rw[Á6];decide,λt ht=>?_⟩⟩
 have sm:a30 H1 (upd H1 t (.tup [.ty "tuple",.ty "list"])):=a30.new _ ht;refine⟨d,v,t,rfl,((rv.pl.d_ q1).same (a30.trans (a20 zA H1) sm)).has,SqT.of c20,?_⟩;rw[z01 d];exact e00 po x1 st1 _ _ sm h80
theorem s52(hs:B10 x=true)(ga:a70 X G E a v)(gi:a70 X G E i x):a70 X G E (.idx a i) (.Subscript v x pos):=by
 refine a90 (PE.imp (X61 ixD ga.pe gi.pe (E10 hs)) λσ H Q q=>?_) rfl;obtain⟨zA,ρ,z,rr,rel,st,e,po⟩:=q;refine Y30 rel st e (f00 po) λdx dy z2 v w H2 e2 x2 st2 h1 h2=>?_;obtain⟨c,hc,e3⟩:=M.a10 e2;cases e3;exact⟨zA,z2,dx,dy,_,st2,h1,h2,by show É2 _ (d71 dx dy)=_;rw[hc];rfl,e00 po x2 st2⟩
theorem d22(x:XI lm X G E N sc){i k:Nat}{n:Str}{c:Nat}{p q pos:Pos}(h1:N[i]?=some n)(h2:d20 n=true):a70 X G E (.zget i k) (.Subscript (.Name n p) (.Constant (.int k) c q) pos):=by
 unfold d20 at h2;simp only[Á,ô] at h2;refine a90 (PE.imp (X61 h51 (z10 (i:=i) (by rw[x.hN];exact h1) (x.vis n (ò h1)) h2.1 h2.2) W40 (E10 rfl)) λσ H Q qq=>?_) rfl
 obtain⟨zA,ρ,z,rr,rel,st,e,po⟩:=qq;have e0:k61 k ρ[i]? z=some rr:=e;unfold k61 at e0;split at e0
 ·rename_i p hs;obtain⟨v,hv,a,hz',rfl⟩:=rel i .z hs;subst hz';have st':H a=some (.lst [.int p.1,.bl p.2]):=st.zat;refine⟨_,hv,a,[.int p.1,.bl p.2],(k:Int),?_⟩;split at e0
  ·rename_i hk;subst hk;cases e0;obtain⟨s',e',po⟩:=po;cases e';exact⟨_,rfl,rfl,SqL.of st',rfl,po _ H Ext.refl st g80⟩
  ·split at e0
   ·rename_i hk;subst hk;cases e0;obtain⟨s',e',po⟩:=po;cases e';exact⟨_,rfl,rfl,SqL.of st',rfl,po _ H Ext.refl st (u11 Hd.bl)⟩
   ·cases e0
 ·cases e0
theorem Y40(a:Int):∀ (n:Nat) {its:List Ã},its.length=n->(∀ i,i < n->∃ v t,its[i]?=some v/\v=.int (a + (i:Nat)) t)->Vals ((î n).map λ(k:Nat)=>V.int (a + k)) its:=by
 intro n its hl h;have:∀ (m:Nat) (l:List Ã) (o:Nat),l.length=m->(∀ i,i < m->∃ v t,l[i]?=some v/\v=.int (a + (o + i:Nat)) t)->Vals ((Á4 o m 1).map λ(k:Nat)=>V.int (a + k)) l:=by
  intro m
  induction m with
  |zero =>
   intro l o hl _;rw[List.length_eq_zero_iff.mp hl];exact .nil
  |succ m ih =>
   intro l o hl h;cases l with
   |nil=>cases hl
   |cons x r =>
    obtain⟨v,t,e1,e2⟩:=h 0 (Nat.succ_pos m);simp only[Ü0,Ñ4] at e1;subst e1;rw[Ä9,Ç9];refine .cons ⟨t,by rw[e2];simp⟩ (ih r (o + 1) (by simpa using hl) λi hi=>?_)
    obtain⟨v,t,e1,e2⟩:=h (i + 1) (Nat.succ_lt_succ hi);exact⟨v,t,by simpa using e1,by rw[e2];congr 1;omega⟩
 rw[Ê9];exact this n its 0 hl λi hi=>by
  obtain⟨v,t,e1,e2⟩:=h i hi;exact⟨v,t,e1,by rw[e2];simp⟩
theorem m11:ë "range"=some (.type "range"):=by decide +kernel
def lrV:List V->Option (Int × Int)
 |[.int j]=>some (0,j)|[.int i,.int j]=>some (i,j)|_=>none
def lrO:Bool->List V->HO
 |true=>HO.tup|false=>HO.lst
def lrT:Bool->String
 |true=>"tuple"|false=>"list"
def s62(b:Bool)(ta:TA):TE:=λσ H Q=>ta σ H λvs H1=>∃ i j:Int,lrV vs=some (i,j)/\-100000 < i/\i < 100000/\-100000 < j/\j < 100000/\∀ l,H1 l=none->Q (.ref l) (upd H1 l (lrO b ((î (j - i).toNat).map λ(k:Nat)=>V.int (i + k))))
theorem d32{pins:List (Ç × Obj)}{σ:L2.St}{H1:Hp}{s1:Å}{r:Ç}{i j:Int}{t u v:Tok}{Q:VK}(hc:X.calm=true)(I2:Inv X pins σ H1 s1)(hr:Ò1 s1.heap r i j 1 t u v)(i1:-100000 < i)(i2:i < 100000)(j1:-100000 < j)(j2:j < 100000)
  (q:∀ l,H1 l=none->Q (.ref l) (upd H1 l (.lst ((î (j - i).toNat).map λ(k:Nat)=>V.int (i + k))))):Ï (Ô X.prog X.w) X.A (call (.type "list") [.ref r]) (EP X pins σ Q) X.xe s1:=by
 have hz:Â2 i j 1=(((j - i).toNat:Nat):Int):=by rw[rangeSize_one];split <;> omega
 refine call_list_range (n:=(j - i).toNat) (I2.ok.hd hc) hr (small_one ∅ ∅ ∅ ∅) hz ∅ λh' tk acc' c' kp hS hacc=>?_
 have rv:Vals ((î (j - i).toNat).map λ(k:Nat)=>V.int (i + k)) acc'.toList:=by
  refine Y40 i (j - i).toNat ?_ λi hi=>?_
  ·rw[È0];exact hacc.1
  ·have hlt:i < acc'.size:=by rw[hacc.1];exact hi
   obtain⟨t,e⟩:=hacc.2 i acc'[i] (Ç1 hlt);exact⟨acc'[i],t,by rw[ú];exact Ç1 hlt,by rw[e];simp⟩
 have hlen:((î (j - i).toNat).map λ(k:Nat)=>V.int (i + k)).length<=sizeLine:=by rw[Ë,ð,Á6];omega
 have hn:=I2.hok.fresh (È _);exact⟨.ref _,_,I2.laid (t':=tk) kp (È _) (show h60 X.prog X.w _ h' _ (.lst _) from⟨hlen,acc'.toList,c',rv,by rw[Ì7];exact hS⟩),rfl,q _ hn⟩
theorem O61{pins:List (Ç × Obj)}{σ:L2.St}{H1:Hp}{s1:Å}{r:Ç}{i j:Int}{t u v:Tok}{Q:VK}(hc:X.calm=true)(I2:Inv X pins σ H1 s1)(hr:Ò1 s1.heap r i j 1 t u v)(i1:-100000 < i)(i2:i < 100000)(j1:-100000 < j)(j2:j < 100000)
  (q:∀ l,H1 l=none->Q (.ref l) (upd H1 l (.tup ((î (j - i).toNat).map λ(k:Nat)=>V.int (i + k))))):Ï (Ô X.prog X.w) X.A (call (.type "tuple") [.ref r]) (EP X pins σ Q) X.xe s1:=by
 have hz:Â2 i j 1=(((j - i).toNat:Nat):Int):=by rw[rangeSize_one];split <;> omega
 refine HT.tuple_range (n:=(j - i).toNat) (I2.ok.hd hc) hr (small_one ∅ ∅ ∅ ∅) hz ∅ λh' tk acc' kp hsz hacc=>?_
 have rv:Vals ((î (j - i).toNat).map λ(k:Nat)=>V.int (i + k)) acc'.toList:=by
  refine Y40 i (j - i).toNat ?_ λi hi=>?_
  ·rw[È0];exact hacc.1
  ·have hlt:i < acc'.size:=by rw[hacc.1];exact hi
   obtain⟨t,e⟩:=hacc.2 i acc'[i] (Ç1 hlt);exact⟨acc'[i],t,by rw[ú];exact Ç1 hlt,by rw[e];simp⟩
 have hlen:((î (j - i).toNat).map λ(k:Nat)=>V.int (i + k)).length<=sizeLine:=by rw[Ë,ð,Á6];omega
 exact⟨.ref _,_,I2.laid (t':=tk) (λb o e=>Ä _ (kp b o e)) hsz (show h60 X.prog X.w _ _ _ (.tup _) from⟨hlen,acc'.toList,rv,⟨_,Î _ rfl,rfl,0,by rw[Ì7]⟩⟩),rfl,q _ (I2.hok.fresh hsz)⟩
theorem m21(b:Bool){pins:List (Ç × Obj)}{σ:L2.St}{H1:Hp}{s1:Å}{r:Ç}{i j:Int}{t u v:Tok}{Q:VK}(hc:X.calm=true)(I2:Inv X pins σ H1 s1)(hr:Ò1 s1.heap r i j 1 t u v)(i1:-100000 < i)(i2:i < 100000)(j1:-100000 < j)(j2:j < 100000)
  (q:∀ l,H1 l=none->Q (.ref l) (upd H1 l (lrO b ((î (j - i).toNat).map λ(k:Nat)=>V.int (i + k))))):Ï (Ô X.prog X.w) X.A (call (.type (lrT b)) [.ref r]) (EP X pins σ Q) X.xe s1:=by
 cases b with
 |true=>exact O61 hc I2 hr i1 i2 j1 j2 q|false=>exact d32 hc I2 hr i1 i2 j1 j2 q
theorem s72(b:Bool):ë (lrN b)=some (.type (lrT b)):=by
 cases b with
 |true=>exact I10|false=>exact T60
theorem m31(b:Bool){e:Í}{l:List Í}{ta:TA}{p p2 pos pos2:Pos}(hc:X.calm=true)(hg:Gl X (lrN b))(hm:X.mg (lrN b)=none)(hg2:Gl X "range")(hm2:X.mg "range"=none)(ha:PA X (e::l) ta)(hs:noStar e=true)(hs2:l.all noStar=true) :
  PE X (.Call (.Name (lrN b) p) [.Call (.Name "range" p2) (e::l) [] pos2] [] pos) (s62 b ta):=by
 intro pins s σ H Q I h;refine Call_ (r40 I hg hm (s72 b) (ÿ (Calls.spliced_cons ?_) rfl rfl) (by cases b <;> decide) (by cases b <;> decide))
 refine Call_ (r40 I hg2 hm2 m11 (ÿ (thn (ha pos2 pins s σ H _ I h) λus s1 ⟨vs,H1,I1,r1,q1⟩=>?_) (c30 hs l X.env) (s30 X.env pos2 hs2)));obtain⟨i,j,hv,i1,i2,j1,j2,q⟩:=q1
 match vs,hv with
 |[.int _],hv =>
  cases hv;obtain⟨u,rfl,r⟩:=vals1 r1;obtain⟨t,rfl⟩:=r;exact call_range_1 (Õ1 (m21 b hc (I1.kept λb o e=>Ä _ e) (Ò1.new ..) i1 i2 j1 j2 q))
 |[.int _,.int _],hv =>
  cases hv;obtain⟨u,u',rfl,r,r'⟩:=vals2 r1;obtain⟨t,rfl⟩:=r;obtain⟨t',rfl⟩:=r';exact call_range_2 (Õ1 (m21 b hc (I1.kept λb o e=>Ä _ e) (Ò1.new ..) i1 i2 j1 j2 q))
theorem z31:∀ {ds xs:List D},lrD ds=some xs->∃ i j:Int,((ds=[.int j]/\i=0)∨ds=[.int i,.int j])/\-100000 < i/\i < 100000/\-100000 < j/\j < 100000/\xs=(î (j - i).toNat).map λ(k:Nat)=>D.int (i + k)
 |[],_,h=>by cases h
 |[x],xs,h=>by
  cases x with
  |int j =>
   obtain⟨hj,h⟩:=e50 h;have hj:=H50.mp hj;exact⟨0,j,.inl ⟨rfl,rfl⟩,by omega,by omega,hj.1,hj.2,by cases h;simp⟩
  |_=>cases h
 |[x,y],xs,h=>by
  cases x with
  |int i =>
   cases y with
   |int j =>
    obtain⟨hj,h⟩:=e50 h;have h1:=H50.mp hj.1;have h2:=H50.mp hj.2;exact⟨i,j,.inr rfl,h1.1,h1.2,h2.1,h2.2,by cases h;rfl⟩
   |_=>cases h
  |_=>cases h
 |x::y::_::_,_,h=>by
  cases x with
  |int i=>cases y <;> cases h
  |_=>cases h
theorem d42(x:XI lm X G E N sc){b:Bool}{as:Ex}{a:Í}{l:List Í}{p p2 pos pos2:Pos}(h1:glob sc (lrN b)=true)(h2:glob sc "range"=true)(hL:isL as=true)(g:Good X G E as (a::l)):a70 X G E (.lrng b as) (.Call (.Name (lrN b) p) [.Call (.Name "range" p2) (a::l) [] pos2] [] pos):=by
 obtain⟨k1,_,_⟩:=d30 h1;obtain⟨m1,_,_⟩:=d30 h2;obtain⟨ha,hs⟩:=g.args hL;rw[Ã5,Á] at hs;refine a90 (PE.imp (m31 b x.calm (x.glb _ k1) (x.blt _ (by cases b <;> decide)) (x.glb _ m1) (x.blt _ (-0)) ha hs.1 hs.2) λσ H Q q=>?_) rfl
 obtain⟨zA,ρ,z,rr,rel,st,e,po⟩:=q;refine e01 rel st e (f00 po) λl z1 e1 vs H1 x1 st1 rvs=>?_;obtain⟨xs,hx,e2⟩:=M.a10 e1;cases e2;obtain⟨s',e',po⟩:=po;cases e';obtain⟨ds,h3,h4⟩:=Ê.mp hx;have hd:=C90 rvs h3;have fin:∀ i j:Int,xs=(î (j - i).toNat).map (λ(k:Nat)=>D.int (i + k))->∀ lA,H1 lA=none->Q (.ref lA) (upd H1 lA (lrO b ((î (j - i).toNat).map λ(k:Nat)=>V.int (i + k)))):=λi j ex lA hn=>by
  subst ex;have hI:=HdA.ints (K:=X.K) (H:=hz zA H1) ((î (j - i).toNat).map λ(k:Nat)=>i + (k:Int));rw[ó,ó] at hI;cases b with
  |false=>exact po _ _ (x1.trans (Ext.of (a30.new _ hn))) (st1.same (a30.new _ hn)) ((p20 st1 hI hn).from x1)|true=>exact po _ _ (x1.trans (Ext.of (a30.new _ hn))) (st1.same (a30.new _ hn)) (u11 (Hd.tup ((st1.same (a30.new _ hn)).M41 (SqT.of c20)) (hI.same (i60 (a30.new _ hn)))))
 obtain⟨i,j,hds,j1,j2,j3,j4,ex⟩:=z31 h4;refine⟨i,j,?_,j1,j2,j3,j4,fin i j ex⟩;rcases hds with ⟨rfl,rfl⟩ | rfl
 ·obtain⟨v,rfl,h5⟩:=hd.one;cases h5.g70;rfl
 ·obtain⟨v,w,rfl,h5,h6⟩:=hd.two;cases h5.g70;cases h6.g70;rfl
def tPO(K:Â)(G:Gs)(E:XK)(x:Ex):TO:=λσ H Q=>∃ zA ρ z r,y10 K zA H ρ σ/\d60 zA z H/\ev G.F x ρ z=some r/\(match r with
 |.ok l z'=>∃ o,k51 l=some o/\∀ H',Ext zA H H'->d60 zA z' H'->Q o H'
 |.er c z'=>EPost G zA E c z' H)
theorem d52(hL:isL x=true)(g:Good X G E x e.toList):PO X e (tPO X.K G E x):=by
 cases e with
 |none =>
  cases x with
  |nil =>
   refine λpins s σ H Q I q=>J31 pins s σ H Q I ?_;obtain⟨zA,ρ,z,r,rel,st,e,po⟩:=q;cases e;obtain⟨o,e',po⟩:=po;cases e';exact po H Ext.refl st
  |cons a r=>obtain⟨e,es,h,_⟩:=g;cases h
  |_=>cases hL
 |some e =>
  cases x with
  |nil=>cases (show [e]=[] from g)
  |cons a r =>
   obtain⟨e',es,h,ns,ga,lr,gr⟩:=g;cases h;refine λpins s σ H Q I q=>J41 ga.pe pins s σ H Q I ?_;obtain⟨zA,ρ,z,rr,rel,st,e,po⟩:=q;have her:∀ c z1,rr=.er c z1->EPost G zA E c z1 H:=λc z1 e=>by subst e;exact po
   have rn:r=.nil:=by
    cases r with
    |nil=>rfl|cons b q=>obtain⟨e,es,h,_⟩:=gr;cases h
    |_=>cases lr
   subst rn;refine g90 rel st e her λl z1 e1=>?_;obtain⟨s,hs,e2⟩:=M.a10 e1;cases e2;obtain⟨o,e',po⟩:=po;refine⟨s,B00 hs,λv H1 x1 st1 rv=>?_⟩;cases s with
   |d y =>
    cases y with
    |int i =>
     cases e';exact⟨i,Hd.g70 (show Hd X.K (hz zA H1) (.int i) v from rv),po H1 x1 st1⟩
    |_=>cases e'
   |_=>cases e'
  |_=>cases hL
theorem F42{a lo hi:Ex}{v:Í}{l h:Option Í}{p pos:Pos}(ga:a70 X G E a v)(hl:isL lo=true)(hh:isL hi=true)(gl:Good X G E lo l.toList)(gh:Good X G E hi h.toList):a70 X G E (.sl a lo hi) (.Subscript v (.Slice l h none p) pos):=by
 refine a90 (PE.imp (v41 E52 ga.pe (d52 hl gl) (d52 hh gh)) λσ H Q q=>?_) rfl;obtain⟨zA,ρ,z,rr,rel,st,e,po⟩:=q;refine g90 rel st e (f00 po) λm z1 e1=>?_;obtain⟨dx,p1,e2⟩:=M.a10 e1;obtain⟨s1,rfl,q1⟩:=e60 p1;refine⟨s1,rfl,λw H1 x1 st1 rv=>?_⟩;rcases M.bind_some e2 with ⟨u,z2,e3,e4⟩ | ⟨c,z2,e3,e4⟩
 ·obtain⟨o,ho,e5⟩:=M.a10 e4;refine⟨zA,ρ,z1,_,rel.mono x1,st1,e3,o,ho,λH2 x2 st2=>?_⟩;rcases M.bind_some e5 with ⟨u',z3,e6,e7⟩ | ⟨c,z3,e6,e7⟩
  ·obtain⟨o',ho',e8⟩:=M.a10 e7;refine⟨zA,ρ,z2,_,(rel.mono x1).mono x2,st2,e6,o',ho',λH3 x3 st3=>?_⟩;obtain⟨s,hs,e9⟩:=M.a10 e8;cases e9;exact⟨zA,z3,dx,s,st3,((rv.pl.mono (x2.trans x3)).d_ q1),hs,e00 po ((x1.trans x2).trans x3) st3⟩
  ·exact⟨zA,ρ,z2,_,(rel.mono x1).mono x2,st2,e6,((f00 po) c z3 e7).mono (x1.trans x2)⟩
 ·exact⟨zA,ρ,z1,_,rel.mono x1,st1,e3,((f00 po) c z2 e4).mono x1⟩
theorem s82{a:Ex}{v:Í}{p1 p2 p3 pos:Pos}{k:Nat}(ga:a70 X G E a v):a70 X G E (.rev a) (.Subscript v (.Slice none none (some (.UnaryOp .USub (.Constant (.int 1) k p1) p2)) p3) pos):=by
 refine a90 (PE.imp (Y91 ga.pe (W61 D31 W40)) λσ H Q q=>?_) rfl;obtain⟨zA,ρ,z,rr,rel,st,e,po⟩:=q;refine g90 rel st e (f00 po) λm z1 e1=>?_;obtain⟨s,p1,e2⟩:=M.a10 e1;obtain⟨d,p2,p3⟩:=Ê.mp p1;obtain⟨s1,rfl,q1⟩:=e60 p2;cases e2;refine⟨s1,rfl,λw H1 x1 st1 rv=>⟨1,rfl,rfl,?_⟩⟩;have hd:=rv.pl.d_ q1;cases d with
 |tup l =>
  cases p3;obtain⟨a,xs,rfl,h1,h2⟩:=hd.x90;exact .inl ⟨a,xs,rfl,(a20 zA H1).sqT h1,tupQ st1 h2.reverse (e00 po x1 st1)⟩
 |lst l =>
  cases p3;obtain⟨a,xs,rfl,h1,h2⟩:=hd.S60;exact .inr ⟨a,xs,rfl,(h1.same (a20 zA H1)).sq,λp hp=>e00 po x1 st1 _ _ (a30.new _ hp) (p20 st1 h2.reverse hp)⟩
 |_=>cases p3
theorem d62:∀ {x:Ex}{es:List Í}{z z1:Z}{l:List S},isL x=true->Good X G E x es->ev G.F x ρ z=some (.ok l z1)->l.length=es.length:=by
 intro x
 induction x with
 |nil =>
  intro es z z1 l _ h e;have h:es=[]:=h;subst h;cases e;rfl
 |cons a r _ ih =>
  intro es z z1 l _ h e;obtain⟨e',es',rfl,ns,g,lr,gr⟩:=h;rcases M.bind_some e with ⟨m,z2,e1,e2⟩ | ⟨c,z2,e1,e2⟩
  ·obtain⟨s,hs,e3⟩:=M.a10 e2;rcases M.bind_some e3 with ⟨m',z3,e4,e5⟩ | ⟨c,z3,e4,e5⟩
   ·cases e5;rw[Ø,Ø,ih lr gr e4]
   ·cases e5
  ·cases e2
 |_=>intro es z z1 l h;cases h
theorem s_call(x:XI lm X G E N sc){f:Nat}{as:Ex}{n:Str}{ps:List Str}{e:Í}{l:List Í}{p pos:Pos}(hf:G.fns[f]?=some (n,ps))(hl:ps.length=l.length + 1)(hg:glob sc n=true)(hL:isL as=true)(g:Good X G E as (e::l)) :
  a70 X G E (.call f as) (.Call (.Name n p) (e::l) [] pos):=by
 obtain⟨k1,k2,k3⟩:=d30 hg;obtain⟨fa,fd,m1,m2,m3,F⟩:=x.gok f n ps hf;obtain⟨ha,hs⟩:=g.args hL;rw[Ã5,Á] at hs;refine a90 (PE.imp (J01 F x.room (x.glb n k1) m1 m2 m3 .nil x.pas ha k2 (c30 hs.1 l X.env) (s30 X.env pos hs.2)) λσ H Q q=>?_) rfl;obtain⟨zA,ρ,z,rr,rel,st,e,po⟩:=q;have e0:M.bind (ev G.F as ρ) (λl=>M.bind (G.F false f (l.map plS)) λs=>M.ret [s]) z=some rr:=e;rcases M.bind_some e0 with ⟨m,z1,e1,e2⟩ | ⟨c,z1,e1,e2⟩
 ·refine⟨zA,ρ,z,_,rel,st,e1,λvs H1 x1 st1 rvs=>?_⟩;have hv:vs.length=ps.length:=by rw[← rvs.length,d62 hL g e1,hl];rfl
  show spF X.K G f ps.length (vs++[]) H1 Q E;rw[append_nil];refine⟨hv,zA,z1,m.map plS,?_⟩;have ra:RvA X.K zA H1 (m.map plS) vs:=RvA.plS (Ã6.T51 rvs λ_ _ q=>q.pl);rcases M.bind_some e2 with ⟨s,z2,e3,e4⟩ | ⟨c,z2,e3,e4⟩
  ·cases e4;refine⟨_,ra,st1,e3,λv H2 x2 st2 rv=>?_⟩;obtain⟨s',e',po⟩:=po;cases e';exact po v H2 (x1.trans x2) st2 (rv.from x1)
  ·exact⟨_,ra,st1,e3,((f00 po) c z2 e4).mono x1⟩
 ·exact⟨zA,ρ,z,_,rel,st,e1,(f00 po) c z1 e2⟩
def k62:Pat->Nat
 |.nil=>0|.cons _ r=>k62 r + 1|_=>0
mutual
noncomputable def gP(K:Â):Pat->TG
 |.v i=>c11 i|.tup ps=>x42 K (k62 ps) (gL K ps)|.nil=>λ_ _ _ _=>False|.cons _ _=>λ_ _ _ _=>False
noncomputable def gL(K:Â):Pat->TGs
 |.nil=>x32|.cons p r=>V81 (gP K p) (gL K r)|.v _=>λ_ _ _ _=>False|.tup _=>λ_ _ _ _=>False
end
end
end Q
namespace Q
open PySem L2 PySem.Spec PyProof.Rows
variable [TB:Tb]
theorem F11(h:noStar e=true)(es:List Í)(env:Å9):Ç6 (e::es) env=(false,Ô5 e env)::Ç6 es env:=by
 cases e <;> first | rfl | cases h
structure z41(X:Cx)(N:List Str)(loc:Str->Bool):Prop where
 hN:X.N=N
 nd:N.Nodup
 lc:∀ x,loc x=true->Loc X.env.scope x
 fn:∀ x,loc x=true->(X.fn x=true∨X.env.scope.names.lookup x=some .local)
 calm:X.calm=true
theorem E20:∀ {es:List Í} (env:Å9),es.all noStar=true->(Ç6 es env).length=es.length/\(Ç6 es env).findIdx? (·.1)=none
 |[],_,_=>⟨rfl,rfl⟩
 |e::es,env,h=>by
  rw[Ã5,Á] at h;obtain⟨h1,h2⟩:=E20 env h.2;rw[F11 h.1];refine⟨by rw[Ø,Ø,h1],?_⟩
  rw[List.findIdx?_cons,h2];rfl
theorem Y50:∀ {r:Pat}{es:List Í},Y10 N loc r es=true->es.length=k62 r/\es.all noStar=true
 |.nil,es,h=>by
  unfold Y10 at h;have:es=[]:=Î6.mp h;subst this;exact⟨rfl,rfl⟩
 |.cons p r,es,h=>by
  unfold Y10 at h;cases es with
  |nil=>cases h
  |cons e es =>
   rw[Á,Á] at h;obtain⟨h1,h2⟩:=Y50 (r:=r) h.2;exact⟨by rw[Ø,h1];rfl,by rw[Ã5,h.1.1,h2];rfl⟩
 |.v _,_,h=>by unfold Y10 at h;cases h
 |.tup _,_,h=>by unfold Y10 at h;cases h
mutual
theorem m41(L:z41 X N loc):∀ {p:Pat}{e:Í},g30 N loc p e=true->PG X e (gP X.K p)
 |.v i,e,h=>by
  unfold g30 at h;cases e with
  |Name x pos =>
   rw[Á,beq_iff_eq] at h;unfold gP;exact I41 (by rw[L.hN];exact L.nd) (by rw[L.hN];exact h.1) (L.lc x h.2) (L.fn x h.2)
  |_=>cases h
 |.tup ps,e,h=>by
  unfold g30 at h;cases e with
  |Tuple es k pos =>
   obtain⟨h1,h2⟩:=Y50 h;obtain⟨h3,h4⟩:=E20 X.env h2;unfold gP;exact V91 L.calm (F21 L h) (by rw[h3,h1]) h4
  |_=>cases h
 |.nil,e,h=>by unfold g30 at h;cases h
 |.cons _ _,e,h=>by unfold g30 at h;cases h
theorem F21(L:z41 X N loc):∀ {r:Pat}{es:List Í},Y10 N loc r es=true->PGs X es (gL X.K r)
 |.nil,es,h=>by
  unfold Y10 at h;have:es=[]:=Î6.mp h;subst this;unfold gL;exact I51
 |.cons p r,es,h=>by
  unfold Y10 at h;cases es with
  |nil=>cases h
  |cons e es =>
   rw[Á,Á] at h;unfold gL;exact u71 (m41 L h.1.2) (F21 L h.2) (by rw[F11 h.1.1];rfl)
 |.v _,_,h=>by unfold Y10 at h;cases h
 |.tup _,_,h=>by unfold Y10 at h;cases h
end
section
variable {K:Â}{zA:Option Ç}{H:Hp}
theorem y10.set{ρ:Env}{σ:L2.St}{i:Nat}{s:S}{v:V}(h:y10 K zA H ρ σ)(hl:ρ.length=σ.length)(r:RvP K zA H s v):y10 K zA H (ρ.set i (some s)) (σ.set i (some v)):=by
 intro j t e;by_cases hj:j=i
 ·subst hj;have hlt:j < ρ.length:=by
   have:=(Þ.mp e).1;simpa using this
  rw[æ hlt] at e;cases e;exact⟨v,æ (by rw[← hl];exact hlt),r⟩
 ·rw[ß (À4 hj)] at e;obtain⟨w,h1,h2⟩:=h j t e;exact⟨w,by rw[ß (À4 hj)];exact h1,h2⟩
theorem B20:∀ {r:Pat}{l:List D}{ρ ρ':Env},bindL r l ρ=some ρ'->l.length=k62 r
 |.nil,l,ρ,ρ',e=>by
  unfold bindL at e;cases l with
  |nil=>rfl|cons x l=>cases e
 |.cons p r,l,ρ,ρ',e=>by
  unfold bindL at e;cases l with
  |nil=>cases e
  |cons x l =>
   obtain⟨ρ1,e1,e2⟩:=Ê.mp e;rw[Ø,B20 e2];rfl
 |.v _,_,_,_,e=>by unfold bindL at e;cases e
 |.tup _,_,_,_,e=>by unfold bindL at e;cases e
mutual
theorem m51:∀ {p:Pat}{d:D}{ρ ρ':Env},d50 p d ρ=some ρ'->∀ {σ:L2.St}{v:V}{R:L2.St->Hp->Prop},y10 K zA H ρ σ->ρ.length=σ.length->Hd K (hz zA H) d v ->
  (∀ σ',y10 K zA H ρ' σ'->ρ'.length=σ'.length->R σ' H)->gP K p v σ H R
 |.v i,d,ρ,ρ',e,σ,v,R,rel,hl,hd,k=>by
  unfold d50 at e;cases e;unfold gP;exact k _ (rel.set hl (show RvP K zA H (.d d) v from hd)) (by rw[Â6,Â6,hl])
 |.tup ps,d,ρ,ρ',e,σ,v,R,rel,hl,hd,k=>by
  unfold d50 at e;cases d with
  |tup l =>
   obtain⟨a,xs,rfl,h1,h2⟩:=hd.x90;unfold gP;exact⟨a,xs,rfl,(a20 zA H).sqT h1,by rw[h2.length];exact B20 e,Y60 e rel hl h2 k⟩
  |_=>cases e
 |.nil,_,_,_,e,_,_,_,_,_,_,_=>by unfold d50 at e;cases e
 |.cons _ _,_,_,_,e,_,_,_,_,_,_,_=>by unfold d50 at e;cases e
theorem Y60:∀ {r:Pat}{l:List D}{ρ ρ':Env},bindL r l ρ=some ρ'->∀ {σ:L2.St}{vs:List V}{R:L2.St->Hp->Prop},y10 K zA H ρ σ->ρ.length=σ.length->HdA K (hz zA H) l vs ->
  (∀ σ',y10 K zA H ρ' σ'->ρ'.length=σ'.length->R σ' H)->gL K r vs σ H R
 |.nil,l,ρ,ρ',e,σ,vs,R,rel,hl,hd,k=>by
  unfold bindL at e;cases l with
  |nil =>
   cases e;unfold gL;exact⟨hd.e70,k σ rel hl⟩
  |cons x l=>cases e
 |.cons p r,l,ρ,ρ',e,σ,vs,R,rel,hl,hd,k=>by
  unfold bindL at e;cases l with
  |nil=>cases e
  |cons x l =>
   obtain⟨ρ1,e1,e2⟩:=Ê.mp e;obtain⟨v,ws,rfl,h1,h2⟩:=hd.b70;unfold gL;exact⟨v,ws,rfl,m51 e1 rel hl h1 λσ' r' l'=>Y60 e2 r' l' h2 k⟩
 |.v _,_,_,_,e,_,_,_,_,_,_,_=>by unfold bindL at e;cases e
 |.tup _,_,_,_,e,_,_,_,_,_,_,_=>by unfold bindL at e;cases e
end
end
end Q
namespace Q
open PySem L2 PySem.Spec PyProof.Rows
variable [TB:Tb]
structure s92(K:PySem.W.Frag)(zA:Option Addr)(J:L2.It)(xs:List D)(H1:Hp):Prop where
 go:∀ i H,Ext zA H1 H->i < xs.length->J.go i H
 yld:∀ i H x H' z d,Ext zA H1 H->d60 zA z H->J.yld i H x H'->xs[i]?=some d->a30 H H'/\Hd K (hz zA H') d x
 stop:∀ H,Ext zA H1 H->J.stop xs.length H
structure ItB(K:PySem.W.Frag)(J:L2.It)(xs:List D)(B:Hp):Prop where
 go:∀ i H,a30 B H->i < xs.length->J.go i H
 yld:∀ i H x H' zA z d,a30 B (hz zA H)->d60 zA z H->J.yld i H x H'->xs[i]?=some d->a30 H H'/\∀ C,a30 B C->(∀ a ys,SqT K (hz zA H') a ys->SqT K C a ys)->Hd K C d x
 stop:∀ H,a30 B H->J.stop xs.length H
section
variable {K:Â}{B:Hp}
theorem ItB.ok(h:ItB K J xs (hz zA H1)):s92 K zA J xs H1 :=
 ⟨λi H x=>h.go i H (a30.trans x (a20 zA H)),λi H x H' z d e st y k=>let ⟨s,f⟩:=h.yld i H x H' zA z d e st y k;⟨s,f _ (a30.trans e (i60 s)) λ_ _ q=>q⟩,λH x=>h.stop H (a30.trans x (a20 zA H))⟩
theorem Y70(h:o70 K B a ys)(r:HdA K B xs ys):ItB K (Itl K a) xs B where
 go:=λi H x hi=>⟨ys,ys[i]'(by rw[r.length];exact hi),(h.same x).sq,by simp⟩
 yld:=λi H v H' zA z d x st y e=>by
  obtain⟨rfl,y⟩:=y;have y1:=y ys ((h.same x).same (a20 zA _)).sq;obtain⟨w,e1,e2⟩:=r.get e;rw[y1] at e1;cases e1;exact⟨a30.refl _,λC c _=>e2.same c⟩
 stop:=λH x=>⟨ys,(h.same x).sq,by rw[r.length];exact È _⟩
theorem m61(h:SqT K B a ys)(r:HdA K B xs ys):ItB K (Itt K a) xs B where
 go:=λi H x hi=>⟨ys,ys[i]'(by rw[r.length];exact hi),a30.sqT x h,by simp⟩
 yld:=λi H v H' zA z d x st y e=>by
  obtain⟨rfl,y⟩:=y;have y1:=y ys ((a20 zA _).sqT (a30.sqT x h));obtain⟨w,e1,e2⟩:=r.get e;rw[y1] at e1;cases e1;exact⟨a30.refl _,λC c _=>e2.same c⟩
 stop:=λH x=>⟨ys,a30.sqT x h,by rw[r.length];exact È _⟩
theorem m71(lo:Int)(n:Nat):ItB K (Itr lo n) ((î n).map λ(k:Nat)=>D.int (lo + k)) B where
 go:=λi H x hi=>by show i < n;simpa using hi
 yld:=λi H v H' zA z d x st y e=>by
  obtain⟨rfl,rfl⟩:=y;rw[Û] at e;obtain⟨k,e1,rfl⟩:=É.mp e;obtain⟨h1,h2⟩:=Þ.mp e1;rw[Î5] at h2;subst h2;exact⟨a30.refl _,λ_ _ _=>Hd.int⟩
 stop:=λH x=>by show n<=_;simp
end
section
variable {K:Â}{zA:Option Ç}{H1:Hp}
theorem zip_get:∀ {a b:List D}{i:Nat}{d:D},(q00 a b)[i]?=some d->∃ x y,a[i]?=some x/\b[i]?=some y/\d=.tup [x,y]
 |[],_,_,_,e=>by simp[q00] at e|_::_,[],_,_,e=>by simp[q00] at e|x::r,y::q,0,d,e=>by simp[q00] at e;exact⟨x,y,rfl,rfl,e.symm⟩
 |x::r,y::q,i + 1,d,e=>by
  obtain⟨u,v,h1,h2,h3⟩:=zip_get (a:=r) (b:=q) (i:=i) (by simpa [q00] using e)
  exact⟨u,v,by simpa using h1,by simpa using h2,h3⟩
theorem T70:∀ (a b:List D),(q00 a b).length=min a.length b.length
 |[],_=>by simp[q00]|_::_,[]=>by simp[q00]|x::r,y::q=>by simp only[q00,Ø,T70 r q];omega
theorem m81(h:∀ H,a30 B H->SqB bb K H a us)(r:HdA K B xs us)(h':∀ H,a30 B H->SqB bb K H b ws)(r':HdA K B ys ws):ItB K (Itz bb K a b) (q00 xs ys) B where
 go:=λi H x hi=>by
  rw[T70] at hi;exact⟨us,ws,us[i]'(by rw[r.length];omega),ws[i]'(by rw[r'.length];omega),h H x,h' H x,by simp,by simp⟩
 yld:=λi H v H' zA z d x st y e=>by
  obtain⟨T,rfl,hT,y⟩:=y;obtain⟨d1,d2,e1,e2,rfl⟩:=zip_get e;obtain⟨w1,f1,g1⟩:=r.get e1;obtain⟨w2,f2,g2⟩:=r'.get e2;have y1:=y us ws w1 w2 (h H (a30.trans x (a20 zA H))) (h' H (a30.trans x (a20 zA H))) f1 f2;subst y1;have sm:a30 H (upd H T (.tup [w1,w2])):=a30.new _ hT;exact⟨sm,λC c t=>Hd.tup (t _ _ ((st.same sm).M41 (SqT.of c20))) (.cons (g1.same c) (.cons (g2.same c) .nil))⟩
 stop:=λH x=>⟨us,ws,h H x,h' H x,by rw[T70,r.length,r'.length];omega⟩
end
def PX(P:D->Prop):D->Prop
 |.tup l=>∀ y∈l,P y|.lst l=>∀ y∈l,P y|_=>True
def ItX(K:Â)(zA:Option Ç)(H H':Hp)(l:List S)(J:L2.It)(xs:List D):Prop :=
 ∀ (P:D->Prop) (B:Hp),a30 B (hz zA H')->(∀ a ys,SqT K (hz zA H') a ys->SqT K B a ys)->(∀ d v,P d->Hd K (hz zA H') d v->Hd K B d v)->(∀ ds,plA l=some ds->∀ d∈ds,PX P d) ->
  (∀ a ys,o70 K (hz zA H') a ys->((H a=none/\H' a=some (.lst ys))∨d81 l=true)->o70 K B a ys)->ItB K J xs B
theorem HdA.move{K:Â}{H B:Hp}{P:D->Prop}(mv:∀ d v,P d->Hd K H d v->Hd K B d v):∀ {ds:List D}{vs:List V},(∀ y∈ds,P y)->HdA K H ds vs->HdA K B ds vs
 |[],_,_,h=>by rw[h.e70];exact .nil
 |d::ds,_,p,h=>by
  obtain⟨x,r,rfl,h1,h2⟩:=h.b70;exact .cons (mv d x (p d Ð) h1) (HdA.move mv (λy hy=>p y (Ì _ hy)) h2)
theorem ItX.ok{K:Â}{zA:Option Ç}{H H':Hp}{l:List S}{J:L2.It}{xs:List D}(h:ItX K zA H H' l J xs):s92 K zA J xs H':=by
 refine(h (λ_=>True) (hz zA H') (a30.refl _) (λ_ _ q=>q) (λ_ _ _ q=>q) (λds _ d _=>?_) λ_ _ q _=>q).ok;cases d <;> first | trivial | exact λ_ _=>trivial
def tIt(K:Â)(G:Gs)(E:XK)(it:It)(src:Ex):TI:=λσ H R=>∃ zA ρ z r,y10 K zA H ρ σ/\d60 zA z H/\ev G.F src ρ z=some r/\(match r with
 |.ok l z'=>∃ xs,(plA l).bind (itD it)=some xs/\∀ J H',Ext zA H H'->d60 zA z' H'->ItX K zA H H' l J xs->R J H'
 |.er c z'=>EPost G zA E c z' H)
section
variable {lm:Bool}{X:Cx}{G:Gs}{E:XK}{N:List Str}{sc:À9}
theorem d72{zA:Option Ç}{H:Hp}{it:It}{P:L2.It->Hp->Prop}{r:R (List S)}(po:(match r with | .ok l z'=>∃ xs,(plA l).bind (itD it)=some xs/\∀ J H',Ext zA H H'->d60 zA z' H'->ItX X.K zA H H' l J xs->P J H' | .er c z'=>EPost G zA E c z' H)):∀ c z1,r=.er c z1->EPost G zA E c z1 H:=λc z1 e=>by subst e;exact po
theorem m91{s:S}{ds:List D}(h:plA [s]=some ds):∃ d,ds=[d]/\plD s=some d:=by
 cases s with
 |d x=>cases h;exact⟨x,rfl,rfl⟩
 |fr xs=>cases h;exact⟨_,rfl,rfl⟩
 |_=>cases h
theorem F31{tg e:Í}{a:Ex}(g:a70 X G E a e):PI X tg e (tIt X.K G E .seq (.cons a .nil)):=by
 intro pins s σ H R I q;obtain⟨zA,ρ,z,rr,rel,st,ee,po⟩:=q;have e0:M.bind (ev G.F a ρ) (λx=>M.bind (M.of (one x)) λs=>M.bind (ev G.F .nil ρ) λy=>M.ret (s::y)) z=some rr:=ee;rcases M.bind_some e0 with ⟨m,z1,e1,e2⟩ | ⟨c,z1,e1,e2⟩
 ·obtain⟨t,ht,e3⟩:=M.a10 e2;cases e3;have hm:=B00 ht;subst hm;obtain⟨xs,hx,po⟩:=po;obtain⟨ds,h1,h2⟩:=Ê.mp hx;obtain⟨d,rfl,h3⟩:=m91 h1;cases d with
  |tup l =>
   cases h2;refine D11 g.pe pins s σ H R I ⟨zA,ρ,z,_,rel,st,e1,t,rfl,λv H1 x1 st1 rv=>?_⟩;obtain⟨b,ys,rfl,k1,k2⟩:=(rv.pl.d_ h3).x90;exact⟨b,rfl,⟨ys,(a20 zA H1).sqT k1⟩,po _ H1 x1 st1 λP B sub tup mv pa sf=>m61 (tup _ _ k1) (HdA.move mv (show ∀ y∈xs,P y from pa _ h1 _ Ð) k2)⟩
  |lst l =>
   cases h2;refine R20 g.pe pins s σ H R I ⟨zA,ρ,z,_,rel,st,e1,t,rfl,λv H1 x1 st1 rv=>?_⟩;have fin:∀ {b:Ç}{ys:List V},o70 X.K (hz zA H1) b ys->HdA X.K (hz zA H1) xs ys->((H b=none/\H1 b=some (.lst ys))∨d81 [t]=true)->∃ a,V.ref b=.ref a/\(∃ xs,SqL X.K H1 a xs)/\R (Itl X.K a) H1:=λ{b ys} k1 k2 k5=>by
    exact⟨b,rfl,⟨ys,(k1.same (a20 zA H1)).sq⟩,po _ H1 x1 st1 λP B sub tup mv pa sf=>Y70 (sf _ _ k1 k5) (HdA.move mv (show ∀ y∈xs,P y from pa _ h1 _ Ð) k2)⟩
   cases t with
   |d x =>
    cases h3;obtain⟨b,ys,rfl,k1,k2⟩:=Hd.S60 (show Hd X.K (hz zA H1) (.lst xs) v from rv);exact fin k1 k2 (.inr rfl)
   |fr x =>
    cases h3;obtain⟨b,ys,rfl,k0,k1,k2,k3⟩:=rv;exact fin (o70.of (c90 k2 k1)) (k3.same (e40 b _)) (.inl ⟨k0,k2⟩)
   |_=>cases h3
  |_=>cases h2
 ·exact R20 g.pe pins s σ H R I ⟨zA,ρ,z,_,rel,st,e1,(d72 po) c z1 e2⟩
theorem I20{l:List S}{it:It}{xs:List D}(h:(plA l).bind (itD it)=some xs):∃ ds,plA l=some ds/\itD it ds=some xs:=Ê.mp h
theorem n01(x:XI lm X G E N sc){tg a:Í}{as:Ex}{n:Str}{p pos:Pos}(hn:n="range")(hg:glob sc n=true)(hL:isL as=true)(g:Good X G E as [a]):PI X tg (.Call (.Name n p) [a] [] pos) (tIt X.K G E .rng1 as):=by
 subst hn;obtain⟨k1,k2,k3⟩:=d30 hg;obtain⟨ha,hs⟩:=g.args hL;rw[Ã5,Á] at hs;intro pins s σ H R I q;refine g21 (x.glb _ k1) (x.blt _ (-0)) ha (c30 hs.1 [] X.env) pins s σ H R I ?_
 obtain⟨zA,ρ,z,rr,rel,st,ee,po⟩:=q;refine⟨zA,ρ,z,rr,rel,st,ee,?_⟩;cases rr with
 |er c z1=>exact po
 |ok l z1 =>
  obtain⟨xs,hx,po⟩:=po;intro vs H1 x1 st1 rvs;obtain⟨ds,h1,h2⟩:=I20 hx;have hd:=C90 rvs h1
  match ds,h2 with
  |[.int j],h2 =>
   obtain⟨hj,h2⟩:=e50 h2;have hj:=H50.mp hj;cases h2;obtain⟨v,rfl,h3⟩:=hd.one;cases h3.g70;refine⟨j,rfl,by omega,by omega,po _ H1 x1 st1 λP B sub tup mv pa sf=>?_⟩
   have:=m71 (K:=X.K) (B:=B) 0 j.toNat;simpa using this
theorem n11(x:XI lm X G E N sc){tg a b:Í}{as:Ex}{n:Str}{p pos:Pos}(hn:n="range")(hg:glob sc n=true)(hL:isL as=true)(g:Good X G E as [a,b]):PI X tg (.Call (.Name n p) [a,b] [] pos) (tIt X.K G E .rng2 as):=by
 subst hn;obtain⟨k1,k2,k3⟩:=d30 hg;obtain⟨ha,hs⟩:=g.args hL;rw[Ã5,Ã5,Á,Á] at hs;intro pins s σ H R I q;refine g31 (x.glb _ k1) (x.blt _ (-0)) ha (by rw[c30 hs.1,c30 hs.2.1];rfl) (c30 hs.2.1 [] X.env) pins s σ H R I ?_
 obtain⟨zA,ρ,z,rr,rel,st,ee,po⟩:=q;refine⟨zA,ρ,z,rr,rel,st,ee,?_⟩;cases rr with
 |er c z1=>exact po
 |ok l z1 =>
  obtain⟨xs,hx,po⟩:=po;intro vs H1 x1 st1 rvs;obtain⟨ds,h1,h2⟩:=I20 hx;have hd:=C90 rvs h1
  match ds,h2 with
  |[.int i,.int j],h2 =>
   obtain⟨hj,h2⟩:=e50 h2;have hi:=H50.mp hj.1;have hj:=H50.mp hj.2;cases h2;obtain⟨v,w,rfl,h3,h4⟩:=hd.two;cases h3.g70;cases h4.g70;exact⟨i,j,rfl,by omega,po _ H1 x1 st1 λP B sub tup mv pa sf=>m71 i (j - i).toNat⟩
theorem n21{s:S}{r:List S}{ds:List D}(h:plA (s::r)=some ds):∃ x q,ds=x::q/\plD s=some x/\plA r=some q:=by
 cases s with
 |d y =>
  obtain⟨q,e,rfl⟩:=É.mp h;exact⟨y,q,rfl,rfl,e⟩
 |fr y =>
  obtain⟨q,e,rfl⟩:=É.mp h;exact⟨_,q,rfl,rfl,e⟩
 |_=>cases h
theorem O71(h:plA l=some [x,y]):∃ s t,l=[s,t]/\plD s=some x/\plD t=some y:=by
 cases l with
 |nil=>cases h
 |cons s r =>
  obtain⟨_,_,e,h1,h2⟩:=n21 h;cases e;cases r with
  |nil=>cases h2
  |cons t r =>
   obtain⟨_,_,e,h3,h4⟩:=n21 h2;cases e;cases r with
   |nil=>exact⟨s,t,rfl,h1,h3⟩
   |cons u r =>
    obtain⟨_,_,e,_⟩:=n21 h4;cases e
theorem z51{s t:S}(h:d81 [s]=true):d81 [s,t]=true:=by
 match s,h with
 |.d (.lst _),_=>rfl
theorem z61{s t:S}(h:d81 [t]=true):d81 [s,t]=true:=by
 match s with
 |.d (.lst _)=>rfl|.d .non | .d (.bl _) | .d (.int _) | .d (.str _) | .d (.tup _) | .d .dct | .fr _ | .z=>exact h
theorem n31{K:Â}{zA:Option Ç}{H H1:Hp}{t:S}{v:V}{a:List D}(rv:RvS K zA H H1 t v)(h:plD t=some (.lst a)):∃ b ys,v=.ref b/\o70 K (hz zA H1) b ys/\HdA K (hz zA H1) a ys/\((H b=none/\H1 b=some (.lst ys))∨d81 [t]=true):=by
 cases t with
 |d x =>
  cases h;obtain⟨b,ys,rfl,k1,k2⟩:=Hd.S60 (show Hd K (hz zA H1) (.lst a) _ from rv);exact⟨b,ys,rfl,k1,k2,.inr rfl⟩
 |fr x =>
  cases h;obtain⟨b,ys,rfl,k0,k1,k2,k3⟩:=rv;exact⟨b,ys,rfl,o70.of (c90 k2 k1),k3.same (e40 b _),.inl ⟨k0,k2⟩⟩
 |_=>cases h
theorem n41(x:XI lm X G E N sc){tg a b:Í}{as:Ex}{n:Str}{p pos:Pos}(ht:j40 tg=true)(hn:n="zip")(hg:glob sc n=true)(hL:isL as=true)(g:Good X G E as [a,b]):PI X tg (.Call (.Name n p) [a,b] [] pos) (tIt X.K G E .zip as):=by
 subst hn;obtain⟨k1,k2,k3⟩:=d30 hg;obtain⟨ha,hs⟩:=g.args hL;rw[Ã5,Ã5,Á,Á] at hs;cases tg with
 |Tuple es ek ep =>
  intro pins s σ H R I q;refine Y11 (x.glb _ k1) (x.blt _ (-0)) ha (by rw[c30 hs.1,c30 hs.2.1];rfl) (c30 hs.2.1 [] X.env) pins s σ H R I ?_
  obtain⟨zA,ρ,z,rr,rel,st,ee,po⟩:=q;refine⟨zA,ρ,z,rr,rel,st,ee,?_⟩;cases rr with
  |er c z1=>exact po
  |ok l z1 =>
   obtain⟨xs,hx,po⟩:=po;intro vs H1 x1 st1 rvs;obtain⟨ds,h1,h2⟩:=I20 hx;have hd:=C90 rvs h1
   match ds,h2 with
   |[.tup a,.tup b],h2 =>
    cases h2;obtain⟨v,w,rfl,h3,h4⟩:=hd.two;obtain⟨p1,us,rfl,m1,m2⟩:=h3.x90;obtain⟨p2,ws,rfl,m3,m4⟩:=h4.x90;exact⟨false,p1,p2,rfl,⟨us,(a20 zA H1).sqT m1⟩,⟨ws,(a20 zA H1).sqT m3⟩,po _ H1 x1 st1 λP B sub tup mv pa sf=>m81 (λ_ x=>a30.sqT x (tup _ _ m1)) (HdA.move mv (show ∀ y∈a,P y from pa _ h1 _ Ð) m2) (λ_ x=>a30.sqT x (tup _ _ m3)) (HdA.move mv (show ∀ y∈b,P y from pa _ h1 _ (Ì _ Ð)) m4)⟩
   |[.lst a,.lst b],h2 =>
    cases h2;obtain⟨t1,t2,rfl,e1,e2⟩:=O71 h1;cases rvs with
    |cons rv1 rn =>
     cases rn with
     |cons rv2 rn =>
      cases rn;obtain⟨p1,us,rfl,m1,m2,m3⟩:=n31 rv1 e1;obtain⟨p2,ws,rfl,m4,m5,m6⟩:=n31 rv2 e2;refine⟨true,p1,p2,rfl,⟨us,(m1.same (a20 zA H1)).sq⟩,⟨ws,(m4.same (a20 zA H1)).sq⟩,po _ H1 x1 st1 λP B sub tup mv pa sf=>m81 (λ_ x=>((sf _ _ m1 (m3.imp id λq=>?_)).same x).sq) (HdA.move mv (show ∀ y∈a,P y from pa _ h1 _ Ð) m2) (λ_ x=>((sf _ _ m4 (m6.imp id λq=>?_)).same x).sq) (HdA.move mv (show ∀ y∈b,P y from pa _ h1 _ (Ì _ Ð)) m5)⟩
      ·exact z51 q
      ·exact z61 q
 |_=>cases ht
theorem Y80:∀ {a:List D}{i n:Nat}{d:D},(r90 a n)[i]?=some d->∃ x,a[i]?=some x/\d=.tup [.int ((n + i:Nat):Int),x]
 |[],_,_,_,e=>by simp[r90] at e|x::r,0,n,d,e=>by simp[r90] at e;exact⟨x,rfl,e.symm⟩
 |x::r,i + 1,n,d,e=>by
  obtain⟨u,h1,h2⟩:=Y80 (a:=r) (i:=i) (n:=n + 1) (by simpa [r90] using e)
  exact⟨u,by simpa using h1,by rw[h2,show n + 1 + i=n + (i + 1) by omega]⟩
theorem I30:∀ (a:List D) (n:Nat),(r90 a n).length=a.length
 |[],_=>rfl|x::r,n=>by simp only[r90,Ø,I30 r]
theorem Y90(h:∀ H,a30 B H->SqB b X.K H a us)(r:HdA X.K B xs us):ItB X.K (Ite b X.K a) (r90 xs 0) B where
 go:=λi H x hi=>by
  rw[I30] at hi;exact⟨us,us[i]'(by rw[r.length];omega),h H x,by simp⟩
 yld:=λi H v H' zA z d x st y e=>by
  obtain⟨T,rfl,hT,y⟩:=y;obtain⟨d1,e1,rfl⟩:=Y80 e;obtain⟨w1,f1,g1⟩:=r.get e1;have y1:=y us w1 (h H (a30.trans x (a20 zA H))) f1;subst y1;have sm:a30 H (upd H T (.tup [.int i,w1])):=a30.new _ hT;exact⟨sm,λC c t=>Hd.tup (t _ _ ((st.same sm).M41 (SqT.of c20))) (.cons (by rw[Nat.zero_add];exact Hd.int) (.cons (g1.same c) .nil))⟩
 stop:=λH x=>⟨us,h H x,by rw[I30,r.length]⟩
theorem O81(h:plA l=some [d]):∃ s,l=[s]:=by
 cases l with
 |nil=>cases h
 |cons s r =>
  cases r with
  |nil=>exact⟨s,rfl⟩|cons t q=>exfalso;cases s <;> cases t <;> first | (cases h;done) | (simp only[plA,Option.map_map,Ñ1] at h;obtain⟨_,_,h⟩:=h;cases h)
theorem Z00(x:XI lm X G E N sc){tg a:Í}{as:Ex}{n:Str}{p pos:Pos}(ht:j40 tg=true)(hn:n="enumerate")(hg:glob sc n=true)(hL:isL as=true)(g:Good X G E as [a]):PI X tg (.Call (.Name n p) [a] [] pos) (tIt X.K G E .enum as):=by
 subst hn;obtain⟨k1,k2,k3⟩:=d30 hg;obtain⟨ha,hs⟩:=g.args hL;rw[Ã5,Á] at hs;cases tg with
 |Tuple es ek ep =>
  intro pins s σ H R I q;refine M01 (x.glb _ k1) (x.blt _ (-0)) ha (c30 hs.1 [] X.env) pins s σ H R I ?_
  obtain⟨zA,ρ,z,rr,rel,st,ee,po⟩:=q;refine⟨zA,ρ,z,rr,rel,st,ee,?_⟩;cases rr with
  |er c z1=>exact po
  |ok l z1 =>
   obtain⟨xs,hx,po⟩:=po;intro vs H1 x1 st1 rvs;obtain⟨ds,h1,h2⟩:=I20 hx;have hd:=C90 rvs h1
   match ds,h2 with
   |[.tup a],h2 =>
    cases h2;obtain⟨v,rfl,h3⟩:=hd.one;obtain⟨p1,us,rfl,m1,m2⟩:=h3.x90;exact⟨false,p1,rfl,⟨us,(a20 zA H1).sqT m1⟩,po _ H1 x1 st1 λP B sub tup mv pa sf=>Y90 (λ_ x=>a30.sqT x (tup _ _ m1)) (HdA.move mv (show ∀ y∈a,P y from pa _ h1 _ Ð) m2)⟩
   |[.lst a],h2 =>
    cases h2;have fin:∀ (b:Ç) (ys:List V),o70 X.K (hz zA H1) b ys->HdA X.K (hz zA H1) a ys->((H b=none/\H1 b=some (.lst ys))∨d81 l=true)->∃ bb p,[V.ref b]=[.ref p]/\(∃ xs,SqB bb X.K H1 p xs)/\R (Ite bb X.K p) H1:=λb ys k1 k2 k5 =>
     ⟨true,b,rfl,⟨ys,(k1.same (a20 zA H1)).sq⟩,po _ H1 x1 st1 λP B sub tup mv pa sf=>Y90 (λ_ x=>((sf _ _ k1 k5).same x).sq) (HdA.move mv (show ∀ y∈a,P y from pa _ h1 _ Ð) k2)⟩
    obtain⟨t,rfl⟩:=O81 h1;cases rvs with
    |cons rv rn =>
     cases rn;cases t with
     |d x =>
      cases h1;obtain⟨b,ys,rfl,k1,k2⟩:=Hd.S60 (show Hd X.K (hz zA H1) (.lst a) _ from rv);exact fin _ _ k1 k2 (.inr rfl)
     |fr x =>
      cases h1;obtain⟨b,ys,rfl,k0,k1,k2,k3⟩:=rv;exact fin _ _ (o70.of (c90 k2 k1)) (k3.same (e40 b _)) (.inl ⟨k0,k2⟩)
     |_=>cases h1
 |_=>cases ht
abbrev EF:XK:=λ_ _ _=>False
def ttC(K:Â)(G:Gs):Ex->TT
 |.nil=>v81|.cons c _=>tT K G EF c|_=>λ_ _ _=>False
theorem e21(h:turns f (x::r) z=some (.ok ys z2)):∃ o z1 l,f x z=some (.ok o z1)/\turns f r z1=some (.ok l z2)/\ys=(match o with | some y=>y::l | none=>l):=by
 rcases M.bind_some (show M.bind (f x) _ z=_ from h) with ⟨o,z1,e1,e2⟩ | ⟨c,z1,e1,e2⟩
 ·rcases M.bind_some e2 with ⟨l,z3,e3,e4⟩ | ⟨c,z3,e3,e4⟩
  ·cases e4;exact⟨o,z1,l,e1,e3,rfl⟩
  ·cases e4
 ·cases e2
theorem O91{zA:Option Ç}{J:L2.It}{xs ys:List D}{H1:Hp}{z1 z2:Z}{p:Pat}{cond el:Ex}{ρ0:Env}{σ0:L2.St}{Q:VK}(IT:s92 X.K zA J xs H1)(hm:xs.length<=most)(rel0:y10 X.K zA H1 ρ0 σ0)(len:ρ0.length=σ0.length)(st1:d60 zA z1 H1)
  (hc:cond=.nil∨∃ c,cond=.cons c .nil) (e:turns (m10 (ev G.F cond) (ev G.F el) p ρ0) xs z1=some (.ok ys z2))
  (fin:∀ H2 vs l,Ext zA H1 H2->d60 zA z2 H2->HdA X.K (hz zA H2) ys vs->H2 l=none->Q (.ref l) (upd H2 l (.lst vs))):K01 J σ0 H1 (gP X.K p) (ttC X.K G cond) (tI X.K G EF el) Q:=by
 refine⟨λi m vs H=>m=xs.length - i/\i<=xs.length/\vs.length<=i/\∃ yd z rest,Ext zA H1 H/\d60 zA z H/\HdA X.K (hz zA H) yd vs/\turns (m10 (ev G.F cond) (ev G.F el) p ρ0) (xs.drop i) z=some (.ok rest z2)/\ys=yd++rest,
  ⟨xs.length,rfl,Ä3 _,Ä3 _,[],z1,ys,Ext.refl,st1,.nil,by simpa using e,rfl⟩,?_⟩
 rintro i m vs H ⟨rfl,hi,hv,yd,z,rest,x,st,hd,et,ey⟩;by_cases hlt:i < xs.length
 ·refine .inr ⟨IT.go i H x hlt,Ì5 hv (Ù hlt (f50 hm)),
   λws H'=>ws.length<=i + 1/\∃ yd z rest,Ext zA H1 H'/\d60 zA z H'/\HdA X.K (hz zA H') yd ws/\turns (m10 (ev G.F cond) (ev G.F el) p ρ0) (xs.drop (i + 1)) z=some (.ok rest z2)/\ys=yd++rest,
   λws H' q=>⟨xs.length - (i + 1),by omega,rfl,hlt,q.1,q.2⟩,λv H' y=>?_⟩
  obtain⟨sm,hx⟩:=IT.yld i H v H' z xs[i] x st y (by simp[hlt])
  rw[Ç2 hlt] at et;obtain⟨o,z3,l,f1,f2,f3⟩:=e21 et;obtain⟨ρ',b1,f4⟩:=M.a10 (show M.bind (M.of (d50 p xs[i] ρ0)) _ z=_ from f1);have x':Ext zA H1 H':=x.trans (Ext.of sm);have st':=st.same sm;refine m51 b1 (rel0.mono x') len hx λσ' rel' len'=>?_;have yes:∀ {za:Z}{Ha:Hp},Ext zA H' Ha->d60 zA za Ha->M.bind (ev G.F el ρ') (λy=>M.bind (M.of (pl y)) λy=>M.ret (some y)) za=some (.ok o z3)->tI X.K G EF el σ' Ha (λy H4=>(vs++[y]).length<=i + 1/\∃ yd z rest,Ext zA H1 H4/\d60 zA z H4/\HdA X.K (hz zA H4) yd (vs++[y])/\turns (m10 (ev G.F cond) (ev G.F el) p ρ0) (xs.drop (i + 1)) z=some (.ok rest z2)/\ys=yd++rest):=λ{za Ha} xa sta ea=>by
   refine g90 (rel'.mono xa) sta ea (λc z1 h=>by cases h) λm z4 e4=>?_
   obtain⟨d,p1,e5⟩:=M.a10 e4;obtain⟨s1,rfl,q1⟩:=e60 p1;cases e5;refine⟨s1,rfl,λw H4 x4 st4 rv=>⟨by rw[Ã1];simp;omega,yd++[d],z3,l,(x'.trans xa).trans x4,st4,?_,f2,by rw[ey,f3,Õ4];rfl⟩⟩
   exact(hd.same (a30.trans (i60 sm) (a30.trans xa.same x4.same))).append (.cons (rv.pl.d_ q1) .nil)
  rcases hc with rfl | ⟨c,rfl⟩
  ·have f5:M.bind (ev G.F el ρ') (λy=>M.bind (M.of (pl y)) λy=>M.ret (some y)) z=some (.ok o z3):=f4;have ty:ttC X.K G .nil=v81:=rfl;rw[ty];refine y01 ?_;dsimp only;rw[if_pos rfl];exact yes Ext.refl st' f5
  ·rcases M.bind_some (show M.bind (ev G.F (.cons c .nil) ρ') _ z=_ from f4) with ⟨m,za,e1,e2⟩ | ⟨q,za,e1,e2⟩
   ·rcases M.bind_some (show M.bind (ev G.F c ρ') _ z=_ from e1) with ⟨m',zb,e3,e4⟩ | ⟨q,zb,e3,e4⟩
    ·obtain⟨s,hs,e5⟩:=M.a10 e4;cases e5;have hm':=B00 hs;subst hm';show tT X.K G EF c σ' H' _;have tb:∃ b,s=.d (.bl b):=by
      cases s with
      |d y=>cases y with
       |bl b=>exact⟨b,rfl⟩|_=>cases e2
      |_=>cases e2
     obtain⟨b,rfl⟩:=tb;refine⟨zA,ρ',z,_,rel',st',e3,b,rfl,λHa xa sta=>?_⟩;cases b with
     |true =>
      rw[if_pos rfl];exact yes xa sta e2
     |false =>
      rw[if_neg Ñ];cases e2;exact⟨Ò hv (Nat.le_succ _),yd,z3,l,x'.trans xa,sta,hd.same (a30.trans (i60 sm) xa),f2,by rw[ey,f3]⟩
    ·cases e4
   ·cases e2
 ·have hi':i=xs.length:=by omega
  subst hi';rw[drop_length] at et;cases et;refine .inl ⟨IT.stop H x,λl hl=>fin H vs l x st (by rw[ey,append_nil];exact hd) hl⟩
end
theorem e10{env:Å9}{k0:Å7}(hk:k0≠.free):∀ {names:List (Str × Å7)}{x:Str},names.lookup x=some k0 ->
  (names.map λ(n,k)=>if (k == ç&&env.scope.kind == .function&&env.kindOf n == some .cell) then(n,û) else(n,k)).lookup x=some k0
 |[],_,h=>by simp at h
 |(n,k)::r,x,h=>by
  have ih:=@e10 env k0 hk r x;show É9 x ((if (k == ç&&env.scope.kind == .function&&env.kindOf n == some .cell)=true then(n,û) else(n,k))::_)=_;cases hx:x == n with
  |true =>
   simp only[õ,hx] at h;cases h;have:(k0 == ç)=false:=by simpa using hk
   rw[this,Ì0,Ì0,if_neg Ñ];simp only[õ,hx]
  |false =>
   simp only[õ,hx] at h;by_cases hq:(k == ç&&env.scope.kind == .function&&env.kindOf n == some .cell)=true
   ·rw[if_pos hq];simp only[õ,hx];exact ih h
   ·rw[if_neg hq];simp only[õ,hx];exact ih h
section
variable {lm:Bool}{X:Cx}{G:Gs}{E:XK}{N:List Str}{sc csc:À9}{on:List Str}{cs:List (Str × Nat)}
structure d82(csc sc:Scope)(N on:List Str)(cs:List (Str × Nat)):Prop where
 kind:csc.kind=.function
 uniq:∀ y∈csc.names,csc.names.lookup y.1=some y.2
 locs:∀ y∈csc.names,y.2=.local->csc.names.lookup y.1=some .local
 frees:∀ y∈csc.names,y.2=.free->(sc.names.lookup y.1=some .cell∨sc.names.lookup y.1=some .free)
 captd:∀ p∈cs,N[p.2]?=some p.1/\csc.names.lookup p.1=some .free
 own:∀ x∈on,csc.names.lookup x=some .local∨csc.names.lookup x=some .cell
 nd:(on++cs.map (·.1)).Nodup
theorem t02(h:Y20 csc sc N on cs=true):d82 csc sc N on cs:=by
 unfold Y20 at h;simp only[Á] at h;obtain⟨⟨⟨⟨⟨⟨h1,h2⟩,h3⟩,h4⟩,h5⟩,h6⟩,h7⟩:=h;rw[Å5] at h2 h3 h4 h5 h6;refine⟨by simpa using h1,λy hy=>by simpa using h2 y hy,λy hy hl=>?_,λy hy hf=>?_,λp hp=>by simpa using h5 p hp,λx hx=>by simpa using h6 x hx,of_decide_eq_true h7⟩
 ·have:=h3 y hy;rw[hl] at this;simpa using this
 ·have:=h4 y hy;rw[hf] at this;simpa using this
theorem P01(x:XI lm X G E N sc)(c:d82 csc sc N on cs):D50 X csc on cs:=⟨c.kind,λy hy h=>h ▸ c.uniq y hy,λy hy h=>h ▸ c.uniq y hy,c.locs,λy hy hf=>x.cel _ (c.frees y hy hf),λp hp=>by rw[x.hN];exact c.captd p hp⟩
theorem n51(x:XI lm X G E N sc)(c:d82 csc sc N on cs)(cl:List (Str × Ç))(C:Ç)(s:Å)(H:Hp)(fp:List Ç):XI false (b90 X (d10 on cs) csc cl C s H fp) G EF (on++cs.map (·.1)) csc where
 gok:=x.gok
 num:=x.num
 blt:=x.blt
 hN:=rfl
 nd:=c.nd
 vis:=λy hy=>by
  rcases Â0.mp hy with h | h
  ·rcases c.own y h with h | h
   ·exact .inl (e10 (-0) h)
   ·exact .inr (.inl (e10 (-0) h))
  ·obtain⟨p,hp,rfl⟩:=â.mp h;rcases n70 (env:=X.env) (c.captd p hp).2 with h | h
   ·exact .inr (.inl h)
   ·exact .inr (.inr h)
 glb:=λy hy=>e10 (-0) hy
 cel:=λy hy=>by
  rcases hy with h | h
  ·exact .inl (e10 (-0) h)
  ·exact n70 (env:=X.env) h
 calm:=x.calm
 room:=x.room
 pas:=Z41
theorem z71(x:XI lm X G E N sc)(c:d82 csc sc N on cs)(cl:List (Str × Ç))(C:Ç)(s:Å)(H:Hp)(fp:List Ç):z41 (b90 X (d10 on cs) csc cl C s H fp) (on++cs.map (·.1)) (λy=>on.contains y) where
 hN:=rfl
 nd:=c.nd
 lc:=λy hy=>(c.own y (by simpa using hy)).elim (λh=>.inl (e10 (-0) h)) λh=>.inr (e10 (-0) h)
 fn:=λy hy=>(c.own y (by simpa using hy)).elim (λh=>.inr (e10 (-0) h)) λh=>.inl (by show(csc.names.lookup y == some .cell)=true;rw[h];rfl)
 calm:=x.calm
theorem Z10:∀ {capt:List Nat},(d90 N capt).length=capt.length->(d90 N capt).map (·.2)=capt
 |[],_=>rfl
 |i::r,h=>by
  have le:∀ l:List Nat,(d90 N l).length<=l.length:=by
   intro l
   induction l with
   |nil=>exact È _
   |cons j q ih =>
    unfold d90;split
    ·rw[Ø,Ø];omega
    ·rw[Ø];omega
  unfold d90 at h ⊢;split at h
  ·rename_i y hy;rw[Ø,Ø] at h;rw[Ç9,Z10 ∅]
  ·have:=le r;rw[Ø] at h;omega
theorem z81(rel:y10 X.K zA H ρ σ)(h:cs.map (·.2)=capt):y10 X.K zA H (Õ on.length none++capt.map λi=>(ρ[i]?).getD none) (p60 on cs σ) /\
  (Õ on.length (none:Option S)++capt.map λi=>(ρ[i]?).getD none).length=(p60 on cs σ).length:=by
 subst h;constructor
 ·intro j s e;unfold p60;by_cases hj:j < on.length
  ·rw[Í0 (by simpa using hj)] at e
   simp[È4,hj] at e
  ·rw[Ã2 (by simpa using hj),Ð7,Û,Û] at e
   rw[Ã2 (by simpa using hj),Ë,Û]
   cases hp:cs[j - on.length]? with
   |none=>rw[hp] at e;simp at e
   |some p =>
    rw[hp] at e;simp only[map_some,Ñ4] at e;have e2:ρ[p.2]?=some (some s):=by
     cases hr:ρ[p.2]? with
     |none=>rw[hr] at e;cases e
     |some o=>rw[hr] at e;exact congrArg some e
    obtain⟨v,h1,h2⟩:=rel p.2 s e2;exact⟨v,by simp[h1],h2⟩
 ·unfold p60;simp
theorem n61(h:x40 e=true)(env:Å9)(x:Ã):É6 e env x=pure x:=by
 cases e with
 |Set _ _ _=>cases h
 |_=>rfl
def E30(X:Cx)(G:Gs)(E:XK)(x:Ex)(elt tg iter:Í)(ifs:List Í)(csc:À9):Prop:=∃ (own:List Str) (capt:List (Str × Nat)) (wi:TI) (g:TG) (tt:TT) (te:TE),D50 X csc own capt/\PI X tg iter wi /\
 (∀ cl C s H fp,PG (b90 X (d10 own capt) csc cl C s H fp) tg g)/\(∀ cl C s H fp,PTs (b90 X (d10 own capt) csc cl C s H fp) ifs tt)/\(∀ cl C s H fp,PE (b90 X (d10 own capt) csc cl C s H fp) elt te) /\
 (∀ x,É6 iter X.env x=pure x)/\∀ σ H Q,tI X.K G E x σ H Q->K11 own capt wi g tt te σ H Q
theorem t12(x:XI lm X G E N sc){p:Pat}{it:It}{src cond el:Ex}{capt:List Nat}{elt tg iter:Í}{ifs:List Í}(c:d82 csc sc N on cs)(hcap:cs.map (·.2)=capt)(hp:g30 (on++cs.map (·.1)) (λy=>on.contains y) p tg=true)
  (hi:PI X tg iter (tIt X.K G E it src)) (hns:x40 iter=true) (hc:(cond=.nil/\ifs=[])∨∃ q f,cond=.cons q .nil/\ifs=[f]/\∀ cl C s H fp,PT (b90 X (d10 on cs) csc cl C s H fp) f (tT X.K G EF q))
  (he:∀ cl C s H fp,PE (b90 X (d10 on cs) csc cl C s H fp) elt (tI X.K G EF el)):E30 X G E (.comp on.length capt p it src cond el) elt tg iter ifs csc:=by
 have ht:∀ cl C s H fp,PTs (b90 X (d10 on cs) csc cl C s H fp) ifs (ttC X.K G cond):=by
  rcases hc with ⟨rfl,rfl⟩ | ⟨q,f,rfl,rfl,h⟩
  ·exact λcl C s H fp=>J71
  ·exact λcl C s H fp=>J81 (h cl C s H fp)
 refine⟨on,cs,tIt X.K G E it src,gP X.K p,ttC X.K G cond,tI X.K G EF el,P01 x c,hi,λcl C s H fp=>m41 (z71 x c cl C s H fp) hp,ht,he,n61 hns X.env,λσ H Q q=>?_⟩;obtain⟨zA,ρ,z,rr,rel,st,e,po⟩:=q;have e0:M.bind (ev G.F src ρ) (λl=>M.bind (M.of ((plA l).bind (itD it))) λxs=>if xs.length<=most then M.bind (M.calm (turns (m10 (ev G.F cond) (ev G.F el) p (Õ on.length none++capt.map λi=>(ρ[i]?).getD none)) xs)) λys=>M.ret [.fr ys] else M.no) z=some rr:=e;rcases M.bind_some e0 with ⟨m,z1,e1,e2⟩ | ⟨k,z1,e1,e2⟩
 ·obtain⟨xs,hx,e3⟩:=M.a10 e2;refine⟨zA,ρ,z,_,rel,st,e1,xs,hx,λJ H1 x1 st1 IT'=>?_⟩;have IT:=IT'.ok;split at e3
  ·rename_i hm;rcases M.bind_some e3 with ⟨ys,z2,e4,e5⟩ | ⟨k,z2,e4,e5⟩
   ·cases e5;have e6:turns (m10 (ev G.F cond) (ev G.F el) p (Õ on.length none++capt.map λi=>(ρ[i]?).getD none)) xs z1=some (.ok ys z2):=by
     unfold M.calm at e4;split at e4
     ·rename_i h;cases e4;exact h
     ·cases e4
    obtain⟨r1,r2⟩:=z81 (on:=on) (rel.mono x1) hcap;refine O91 IT hm r1 r2 st1 (by rcases hc with ⟨h,_⟩ | ⟨q,_,h,_⟩;exact .inl h;exact .inr ⟨q,h⟩) e6 λH2 vs l x2 st2 hd hl=>?_
    exact e00 po (x1.trans x2) st2 _ _ (a30.new _ hl) (p20 st2 hd hl)
   ·unfold M.calm at e4;split at e4 <;> cases e4
  ·cases e3
 ·exact⟨zA,ρ,z,_,rel,st,e1,(f00 po) k z1 e2⟩
theorem E30.good(hc:X.calm=true)(h:E30 X G E x elt tg iter ifs csc):a70 X G E x (.ListComp elt [⟨tg,iter,ifs,0⟩] csc pos):=by
 obtain⟨own,capt,wi,g,tt,te,h1,h2,h3,h4,h5,h6,h7⟩:=h;exact a90 (PE.imp (K21 hc h1 h2 h3 h4 h5 h6) h7) rfl
theorem b30(h:(!isL x)=true):isL x=false:=by simpa using h
theorem n71(hL:isL x=true)(g:Good X G E x [e]):∃ a,x=.cons a .nil/\a70 X G E a e:=by
 cases x with
 |nil=>cases (show [e]=[] from g)
 |cons a r =>
  obtain⟨e',es,h,ns,ga,lr,gr⟩:=g;cases h;cases r with
  |nil=>exact⟨a,rfl,ga⟩|cons b q=>obtain⟨e,es,h,_⟩:=gr;cases h
  |_=>cases lr
 |_=>cases hL
theorem O40{lm:Bool}{G:Gs}{own:Nat}{capt:List Nat}{p:Pat}{it:It}{src cond el:Ex}(ihs:(∀ {X:Cx}{E:XK}{N:List Str}{sc:À9},XI lm X G E N sc->∀ {es:List Í},mt lm G.fns G.nums src sc N es=true->Good X G E src es))(ihc:(∀ {X:Cx}{E:XK}{N:List Str}{sc:À9},XI false X G E N sc->∀ {es:List Í},mt false G.fns G.nums cond sc N es=true->Good X G E cond es))(ihe:(∀ {X:Cx}{E:XK}{N:List Str}{sc:À9},XI false X G E N sc->∀ {es:List Í},mt false G.fns G.nums el sc N es=true->Good X G E el es))
  {X:Cx}{E:XK}{N:List Str}{sc:À9} (x:XI lm X G E N sc) {elt tg iter:Í}{ifs:List Í}{csc:À9} (h:(c40 tg).length == own&&(d90 N capt).length == capt.length&&Y20 csc sc N (c40 tg) (d90 N capt)&&g30 (c40 tg++(d90 N capt).map (·.1)) (λx=>(c40 tg).contains x) p tg&&isL src&&!isL el&&isL cond&&ifs.length<=1&&noStar elt&&x40 iter&&ifs.all (λc=>!ifB c) &&
    (match it with
    |.seq=>mt lm G.fns G.nums src sc N [iter]|.rng1=>opt (U01 iter) λr=>r.1.1 == ("range":Str)&&glob sc r.1.1&&mt lm G.fns G.nums src sc N [r.1.2.2.1]|.rng2=>opt (U11 iter) λr=>r.1.1 == ("range":Str)&&glob sc r.1.1&&mt lm G.fns G.nums src sc N [r.1.2.2.1,r.1.2.2.2.1]|.zip=>opt (U11 iter) λr=>r.1.1 == ("zip":Str)&&glob sc r.1.1&&j40 tg&&mt lm G.fns G.nums src sc N [r.1.2.2.1,r.1.2.2.2.1]
    |.enum=>opt (U01 iter) λr=>r.1.1 == ("enumerate":Str)&&glob sc r.1.1&&j40 tg&&mt lm G.fns G.nums src sc N [r.1.2.2.1])&&mt false G.fns G.nums cond csc (c40 tg++(d90 N capt).map (·.1)) ifs&&mt false G.fns G.nums el csc (c40 tg++(d90 N capt).map (·.1)) [elt]):E30 X G E (.comp own capt p it src cond el) elt tg iter ifs csc:=by
 simp only[Á,beq_iff_eq,decide_eq_true_eq] at h;obtain⟨⟨⟨⟨⟨⟨⟨⟨⟨⟨⟨⟨⟨h1,h2⟩,h3⟩,h4⟩,h5⟩,h6⟩,h7⟩,h8⟩,h9⟩,h10⟩,h11⟩,h12⟩,h13⟩,h14⟩:=h;subst h1;have c:=t02 h3;have hi:PI X tg iter (tIt X.K G E it src):=by
  cases it with
  |seq =>
   obtain⟨a,rfl,ga⟩:=n71 h5 (ihs x h12);exact F31 ga
  |rng1 =>
   obtain⟨⟨⟨n,_,a,_⟩,rfl⟩,-,h12⟩:=a40 h12;simp only[Á,beq_iff_eq] at h12;exact n01 x h12.1.1 h12.1.2 h5 (ihs x h12.2)
  |rng2 =>
   obtain⟨⟨⟨n,_,a,b,_⟩,rfl⟩,-,h12⟩:=a40 h12;simp only[Á,beq_iff_eq] at h12;exact n11 x h12.1.1 h12.1.2 h5 (ihs x h12.2)
  |zip =>
   obtain⟨⟨⟨n,_,a,b,_⟩,rfl⟩,-,h12⟩:=a40 h12;simp only[Á,beq_iff_eq] at h12;exact n41 x h12.1.2 h12.1.1.1 h12.1.1.2 h5 (ihs x h12.2)
  |enum =>
   obtain⟨⟨⟨n,_,a,_⟩,rfl⟩,-,h12⟩:=a40 h12;simp only[Á,beq_iff_eq] at h12;exact Z00 x h12.1.2 h12.1.1.1 h12.1.1.2 h5 (ihs x h12.2)
 have hc:(cond=.nil/\ifs=[])∨∃ q f,cond=.cons q .nil/\ifs=[f]/\∀ cl C s H fp,PT (b90 X (d10 (c40 tg) (d90 N capt)) csc cl C s H fp) f (tT X.K G EF q):=by
  match ifs,h8,h11,h13 with
  |[],_,_,h13 =>
   cases cond with
   |nil=>exact .inl ⟨rfl,rfl⟩|cons a r=>cases h13
   |_=>cases h7
  |[f],_,h11,h13 =>
   cases cond with
   |nil=>cases h13
   |cons a r =>
    have h13':(noStar f&&!isL a&&isL r&&mt false G.fns G.nums a csc (c40 tg++(d90 N capt).map (·.1)) [f]&&mt false G.fns G.nums r csc (c40 tg++(d90 N capt).map (·.1)) [])=true:=h13;simp only[Á] at h13';have rn:r=.nil:=by
     cases r with
     |nil=>rfl|cons b q=>cases h13'.2
     |_=>cases h13'.1.1.2
    subst rn;simp only[Ã5,List.all_nil,Ó4] at h11;refine .inr ⟨a,f,rfl,rfl,λcl C s H fp=>?_⟩;obtain⟨e',es,he,ns,ga,lr,gr⟩:=ihc (n51 x c cl C s H fp) h13;cases he;exact ga.pt (O41 h11)
   |_=>cases h7
 refine t12 x c (Z10 h2) h4 hi h10 hc λcl C s H fp=>?_;exact(a50 (b30 h6) (ihe (n51 x c cl C s H fp) h14)).pe
theorem d92:∀ (t:Ex) {lm:Bool}{G:Gs}{X:Cx}{E:XK}{N:List Str}{sc:À9},XI lm X G E N sc->∀ {es:List Í},mt lm G.fns G.nums t sc N es=true->Good X G E t es:=by
 intro t
 induction t with
 |nil =>
  intro lm G X E N sc x es h;exact Î6.mp h
 |cons a r iha ihr =>
  intro lm G X E N sc x es h;cases es with
  |nil=>cases h
  |cons e es =>
   have h:(noStar e&&!isL a&&isL r&&mt lm G.fns G.nums a sc N [e]&&mt lm G.fns G.nums r sc N es)=true:=h;simp only[Á] at h;obtain⟨⟨⟨⟨h1,h2⟩,h3⟩,h4⟩,h5⟩:=h;exact⟨e,es,rfl,h1,a50 (b30 h2) (iha x h4),h3,ihr x h5⟩
 |var i =>
  intro lm G X E N sc x es h;obtain⟨⟨q,rfl⟩,-,h⟩:=a40 h;simp only[Á,beq_iff_eq] at h;exact b50 rfl (r22 x h.1 h.2)
 |con d =>
  intro lm G X E N sc x es h;rcases (Ã3 _ _).mp h with h | h
  ·obtain⟨⟨q,rfl⟩,-,h⟩:=a40 h;exact b50 rfl (r32 h)
  ·obtain⟨⟨p,rfl⟩,-,h⟩:=a40 h;cases d with
   |dct=>exact b50 rfl r42|_=>cases h
 |gint g i =>
  intro lm G X E N sc x es h;obtain⟨⟨⟨n,p⟩,rfl⟩,-,h⟩:=a40 h;simp only[Á,beq_iff_eq,Ü7] at h;obtain⟨⟨rfl,h2⟩,h3⟩:=h;exact b50 rfl (c02 x h2 h3)
 |tup as ih =>
  intro lm G X E N sc x es h;obtain⟨⟨q,rfl⟩,-,h⟩:=a40 h;simp only[Á] at h;exact b50 rfl (r52 h.1 (ih x h.2))
 |lst as ih =>
  intro lm G X E N sc x es h;obtain⟨⟨q,rfl⟩,-,h⟩:=a40 h;simp only[Á] at h;exact b50 rfl (r62 h.1 (ih x h.2))
 |bin o a b iha ihb =>
  intro lm G X E N sc x es h;obtain⟨⟨⟨l,op,r,p⟩,rfl⟩,-,h⟩:=a40 h;simp only[Á,beq_iff_eq] at h;obtain⟨⟨⟨⟨rfl,h2⟩,h3⟩,h4⟩,h5⟩:=h;exact b50 rfl (r72 (a50 (b30 h2) (iha x h4)) (a50 (b30 h3) (ihb x h5)))
 |cmp o a b iha ihb =>
  intro lm G X E N sc x es h;obtain⟨⟨⟨l,op,r,p⟩,rfl⟩,-,h⟩:=a40 h;simp only[Á,beq_iff_eq] at h;obtain⟨⟨⟨⟨⟨rfl,h1⟩,h2⟩,h3⟩,h4⟩,h5⟩:=h;exact b50 rfl (r82 x h1 (a50 (b30 h2) (iha x h4)) (a50 (b30 h3) (ihb x h5)))
 |neg a ih =>
  intro lm G X E N sc x es h;obtain⟨⟨q,rfl⟩,-,h⟩:=a40 h;simp only[Á] at h;exact b50 rfl (r92 (a50 (b30 h.1) (ih x h.2)))
 |not a ih =>
  intro lm G X E N sc x es h;obtain⟨⟨q,rfl⟩,-,h⟩:=a40 h;simp only[Á] at h;obtain⟨⟨h1,h2⟩,h3⟩:=h;exact b50 rfl (s02 (a50 (b30 h1) (ih x h3)) (O41 h2))
 |and a b iha ihb =>
  intro lm G X E N sc x es h;obtain⟨⟨⟨l,r,vs,p⟩,rfl⟩,-,h⟩:=a40 h;simp only[Á] at h;obtain⟨⟨⟨⟨h1,h2⟩,h3⟩,h4⟩,h5⟩:=h;refine b50 rfl (s12 (a50 (b30 h1) (iha x h4)) (O41 h3) ?_);cases vs with
  |nil =>
   rw[if_pos (show([]:List Í).isEmpty=true from rfl),Á] at h5;exact c12 (a50 (b30 h2) (ihb x h5.2)) (O41 h5.1)
  |cons v vs =>
   rw[if_neg (by exact Ñ)] at h5
   exact a50 (b30 h2) (ihb x h5)
 |or a b iha ihb =>
  intro lm G X E N sc x es h;obtain⟨⟨⟨l,r,vs,p⟩,rfl⟩,-,h⟩:=a40 h;simp only[Á] at h;obtain⟨⟨⟨⟨h1,h2⟩,h3⟩,h4⟩,h5⟩:=h;refine b50 rfl (F12 (a50 (b30 h1) (iha x h4)) (O41 h3) ?_);cases vs with
  |nil =>
   rw[if_pos (show([]:List Í).isEmpty=true from rfl),Á] at h5;exact c12 (a50 (b30 h2) (ihb x h5.2)) (O41 h5.1)
  |cons v vs =>
   rw[if_neg (by exact Ñ)] at h5
   exact a50 (b30 h2) (ihb x h5)
 |orT a b iha ihb =>
  intro lm G X E N sc x es h;obtain⟨⟨⟨l,r,vs,p⟩,rfl⟩,-,h⟩:=a40 h;simp only[Á] at h;obtain⟨⟨⟨⟨h1,h2⟩,h3⟩,h4⟩,h5⟩:=h;cases vs with
  |nil=>exact b50 rfl (s22 (a50 (b30 h1) (iha x h4)) (a50 (b30 h2) (ihb x h5)))|cons v vs=>cases h3
 |ite c a b ihc iha ihb =>
  intro lm G X E N sc x es h;obtain⟨⟨q,rfl⟩,-,h⟩:=a40 h;simp only[Á] at h;obtain⟨⟨⟨⟨⟨⟨h1,h2⟩,h3⟩,h4⟩,h5⟩,h6⟩,h7⟩:=h;exact b50 rfl (s32 (a50 (b30 h1) (ihc x h5)) (O41 h4) (a50 (b30 h2) (iha x h6)) (a50 (b30 h3) (ihb x h7)))
 |ch o o' a b c iha ihb ihc =>
  intro lm G X E N sc x es h;obtain⟨⟨⟨l,op,op',r,s,p⟩,rfl⟩,-,h⟩:=a40 h;simp only[Á,beq_iff_eq] at h;obtain⟨⟨⟨⟨⟨⟨⟨⟨rfl,rfl⟩,h1⟩,h2⟩,h3⟩,h4⟩,h5⟩,h6⟩,h7⟩:=h;exact b50 rfl (F22 x h1 (a50 (b30 h2) (iha x h5)) (a50 (b30 h3) (ihb x h6)) (a50 (b30 h4) (ihc x h7)))
 |bf f as ih =>
  intro lm G X E N sc x es h;obtain⟨⟨q,rfl⟩,-,h⟩:=a40 h;simp only[Á,beq_iff_eq] at h;obtain⟨⟨⟨⟨h1,h2⟩,h3⟩,h4⟩,h5⟩:=h;exact b50 rfl (F32 x h1 h2 h3 h4 (ih x h5))
 |isi t a ih =>
  intro lm G X E N sc x es h;obtain⟨⟨⟨n,q,e,ty,p⟩,rfl⟩,-,h⟩:=a40 h;simp only[Á,beq_iff_eq] at h;obtain⟨⟨⟨⟨⟨h1,h2⟩,h3⟩,h4⟩,h5⟩,h6⟩:=h;have g:=a50 (b30 h4) (ih x h5);refine b50 rfl ?_;have one:∀ t:Ty,t≠.seq->(opt (shN ty) λq=>q.1.1 == À8 (tyN t)&&glob sc (À8 (tyN t)))=true->a70 X G E (.isi t a) (.Call (.Name n q) [e,ty] [] p):=λt hs h6=>by
   obtain⟨⟨⟨a,_⟩,rfl⟩,-,h6⟩:=a40 h6;simp only[Á,beq_iff_eq] at h6;obtain⟨rfl,k1⟩:=h6;exact d02 x hs k1 h1 h2 h3 g
  cases t with
  |seq =>
   obtain⟨⟨⟨a,_,b,_,_,_⟩,rfl⟩,-,h6⟩:=a40 h6;simp only[Á,beq_iff_eq] at h6;obtain⟨⟨⟨rfl,rfl⟩,k1⟩,k2⟩:=h6;exact d12 x k1 k2 h1 h2 h3 g
  |_=>exact one _ (λh=>by cases h) h6
 |idx a i iha ihi =>
  intro lm G X E N sc x es h;obtain⟨⟨q,rfl⟩,-,h⟩:=a40 h;simp only[Á] at h;obtain⟨⟨⟨⟨h1,h2⟩,h3⟩,h4⟩,h5⟩:=h;exact b50 rfl (s52 h1 (a50 (b30 h2) (iha x h4)) (a50 (b30 h3) (ihi x h5)))
 |sl a lo hi iha ihl ihh =>
  intro lm G X E N sc x es h;obtain⟨⟨q,rfl⟩,-,h⟩:=a40 h;simp only[Á] at h;obtain⟨⟨⟨⟨⟨h1,h2⟩,h3⟩,h4⟩,h5⟩,h6⟩:=h;exact b50 rfl (F42 (a50 (b30 h1) (iha x h4)) h2 h3 (ihl x h5) (ihh x h6))
 |rev a ih =>
  intro lm G X E N sc x es h;obtain⟨⟨q,rfl⟩,-,h⟩:=a40 h;simp only[Á] at h;exact b50 rfl (s82 (a50 (b30 h.1) (ih x h.2)))
 |call f as ih =>
  intro lm G X E N sc x es h;obtain⟨⟨⟨n,q,e,l,p⟩,rfl⟩,-,h⟩:=a40 h;simp only[Á] at h;obtain⟨⟨⟨h1,h2⟩,h3⟩,h4⟩:=h;obtain⟨pr,hf,h1'⟩:=a40 h1;simp only[Á,beq_iff_eq] at h1';obtain⟨rfl,h7⟩:=h1';exact b50 rfl (s_call x hf h7 h2 h3 (ih x h4))
 |comp own capt p it src cond el ihs ihc ihe =>
  intro lm G X E N sc x es h;obtain⟨⟨q,rfl⟩,-,h⟩:=a40 h;exact b50 rfl ((O40 ihs ihc ihe x h).good x.calm)
 |lrng b as ih =>
  intro lm G X E N sc x es h;obtain⟨⟨⟨n,p,m,q,a,r,t⟩,rfl⟩,-,h⟩:=a40 h;simp only[Á,beq_iff_eq] at h;obtain⟨⟨⟨⟨⟨⟨h1,h2⟩,h3⟩,h4⟩,h5⟩,h7⟩,h6⟩:=h;subst h1;subst h2;cases a with
  |nil=>simp at h7|cons a l=>exact b50 rfl (d42 x h3 h4 h5 (ih x h6))
 |zget i k =>
  intro lm G X E N sc x es h;obtain⟨⟨⟨n,p,j,c,q,r⟩,rfl⟩,-,h⟩:=a40 h;simp only[Á,beq_iff_eq] at h;obtain⟨⟨h1,h2⟩,h3⟩:=h;have h3:j=(k:Int):=h3;subst h3;exact b50 rfl (d22 x h1 h2)
theorem sound(G:Gs)(t:Ex)(x:XI lm X G E N sc)(h:mt lm G.fns G.nums t sc N es=true):Good X G E t es:=d92 t x h
end
open Classical in
def hw(ow:Nat->Option Ç)(H:Hp):Hp:=λb=>if ∃ i,ow i=some b then none else H b
section
variable {K:Â}{ow:Nat->Option Ç}{H H':Hp}
theorem i70:a30 (hw ow H) H:=λb o e=>by
 unfold hw at e;split at e
 ·cases e
 ·exact e
theorem h00(h:H b=some o)(n:∀ i,ow i≠some b):hw ow H b=some o:=by
 unfold hw;rw[if_neg (λ⟨i,e⟩=>n i e)];exact h
theorem B30(h:hw ow H b=some o):H b=some o/\∀ i,ow i≠some b:=by
 refine⟨i70 b o h,λi e=>?_⟩;unfold hw at h;rw[if_pos ⟨i,e⟩] at h;cases h
theorem c70(e:a30 H H'):a30 (hw ow H) (hw ow H'):=λb o h=>by
 obtain⟨h1,h2⟩:=B30 h;exact h00 (e b o h1) h2
theorem q20:hw (λ_=>none) H=H:=by
 funext b
 unfold hw;rw[if_neg (λ⟨i,e⟩=>by cases e)]
theorem n81(h:SqT K H a xs)(hl:∀ i b,ow i=some b->∃ ys,H b=some (.lst ys)):SqT K (hw ow H) a xs:=by
 rcases h with (h | ⟨o,h⟩) | h
 ·refine .inl (.inl (h00 h λi e=>?_));obtain⟨ys,q⟩:=hl i a e;rw[h] at q;cases q
 ·refine .inl (.inr ⟨o,h00 h λi e=>?_⟩);obtain⟨ys,q⟩:=hl i a e;rw[h] at q;cases q
 ·exact .inr h
mutual
theorem I40(hl:∀ i b,ow i=some b->∃ ys,H b=some (.lst ys)):∀ {d:D}{v:V},bare d=true->Hd K H d v->Hd K (hw ow H) d v
 |.non,_,_,h=>by rw[h.k52];exact Hd.non|.bl _,_,_,h=>by rw[h.bl_];exact Hd.bl|.int _,_,_,h=>by rw[h.g70];exact Hd.int|.str _,_,_,h=>by rw[h.p42];exact Hd.str
 |.tup l,_,b,h=>by
  obtain⟨a,xs,rfl,h1,h2⟩:=h.x90;exact Hd.tup (n81 h1 hl) (s50 hl (by simpa [bare] using b) h2)
 |.lst _,_,b,_=>by cases b
 |.dct,_,b,_=>by cases b
theorem s50(hl:∀ i b,ow i=some b->∃ ys,H b=some (.lst ys)):∀ {ds:List D}{vs:List V},i50 ds=true->HdA K H ds vs->HdA K (hw ow H) ds vs
 |[],_,_,h=>by rw[h.e70];exact .nil
 |d::ds,_,b,h=>by
  obtain⟨x,r,rfl,h1,h2⟩:=h.b70;simp only[i50,Á] at b;exact .cons (I40 hl b.1 h1) (s50 hl b.2 h2)
end
end
def RvW(K:Â)(zA:Option Ç)(ow:Nat->Option Ç)(H:Hp)(i:Nat):S->V->Prop
 |.d x,v=>ow i=none/\Hd K (hw ow (hz zA H)) x v|.fr xs,v=>∃ a ys,ow i=some a/\v=.ref a/\H a=some (.lst ys)/\HdA K (hw ow (hz zA H)) xs ys|.z,v=>ow i=none/\∃ a,zA=some a/\v=.ref a
structure RW(K:PySem.W.Frag)(H0:Hp)(zE zA:Option Addr)(ow:Nat->Option Addr)(H:Hp)(ρ:Env)(σ:L2.St):Prop where
 len:ρ.length=σ.length
 inj:∀ i j a,ow i=some a->ow j=some a->i=j
 zne:∀ i a,ow i=some a->zA≠some a
 own:∀ i a,ow i=some a->∃ xs,ρ[i]?=some (some (.fr xs))
 wor:∀ i s,ρ[i]?=some (some s)->∃ v,σ[i]?=some (some v)/\RvW K zA ow H i s v
 ext:Ext zE H0 H
 zok:zA=zE∨(zE=none/\∀ a,zA=some a->H0 a=none)
 new:∀ i a,ow i=some a->H0 a=none
section
variable {K:Â}{H0 H H':Hp}{zE zA:Option Ç}{ow:Nat->Option Ç}{ρ:Env}{σ:L2.St}
theorem RW.lst(r:RW K H0 zE zA ow H ρ σ):∀ i a,ow i=some a->∃ ys,H a=some (.lst ys):=λi a e=>by
 obtain⟨xs,h⟩:=r.own i a e;obtain⟨v,h1,a',ys,h2,h3,h4,h5⟩:=r.wor i _ h;rw[e] at h2;cases h2;exact⟨ys,h4⟩
theorem RW.F41(r:RW K H0 zE zA ow H ρ σ):∀ i a,ow i=some a->∃ ys,hz zA H a=some (.lst ys):=λi a e=>by
 obtain⟨ys,h⟩:=r.lst i a e;exact⟨ys,c90 h (r.zne i a e)⟩
theorem RvW.pl{i:Nat}{s:S}{v:V}(h:RvW K zA ow H i s v)(hz':∀ a,ow i=some a->zA≠some a):RvP K zA H s v:=by
 cases s with
 |d x=>exact h.2.same i70|z=>exact h.2
 |fr xs =>
  obtain⟨a,ys,h1,rfl,h3,h4⟩:=h;exact Hd.lst (c90 h3 (hz' a h1)) (h4.same i70)
theorem RW.I50(r:RW K H0 zE zA ow H ρ σ):y10 K zA H ρ σ:=λi s e=>by
 obtain⟨v,h1,h2⟩:=r.wor i s e;exact⟨v,h1,h2.pl λa q=>r.zne i a q⟩
theorem RvW.mono{i:Nat}{s:S}{v:V}(h:RvW K zA ow H i s v)(hz':∀ a,ow i=some a->zA≠some a)(x:Ext zA H H'):RvW K zA ow H' i s v:=by
 cases s with
 |d y=>exact⟨h.1,h.2.same (c70 x)⟩|z=>exact h
 |fr xs =>
  obtain⟨a,ys,h1,rfl,h3,h4⟩:=h;exact⟨a,ys,h1,rfl,x.at h3 (hz' a h1),h4.same (c70 x)⟩
theorem F51(zA:Option Ç)(H:Hp):a30 (hz zA H) (hz none H):=λ_ _ h=>c90 (q10 h).1 (λq=>nomatch q) (s00 h)
theorem n91(e:Ext zE H0 H)(zok:zA=zE∨(zE=none/\∀ a,zA=some a->H0 a=none))(x:Ext zA H H'):Ext zE H0 H':=by
 rcases zok with rfl | ⟨rfl,hn⟩
 ·exact e.trans x
 ·refine⟨λb o h=>?_,λb ps h=>let ⟨qs,q⟩:=e.tbl b ps h;x.tbl b qs q⟩;have h1:=e.same b o h;refine c90 (x.at (q10 h1).1 (λq=>?_) (s00 h1)) (λq=>nomatch q) (s00 h1);have h0:=(q10 h).1;rw[hn b q] at h0;cases h0
theorem RW.mono(r:RW K H0 zE zA ow H ρ σ)(x:Ext zA H H'):RW K H0 zE zA ow H' ρ σ :=
 ⟨r.len,r.inj,r.zne,r.own,λi s e=>let ⟨v,h1,h2⟩:=r.wor i s e;⟨v,h1,h2.mono (λa q=>r.zne i a q) x⟩,n91 r.ext r.zok x,r.zok,r.new⟩
theorem RW.young(r:RW K H0 zE zA ow H ρ σ)(h:H a=none)(n:zA≠some a):H0 a=none/\zE≠some a:=by
 have hE:zE≠some a:=λq=>by
  rcases r.zok with rfl | ⟨rfl,_⟩
  ·exact n q
  ·cases q
 exact⟨r.ext.free h hE,hE⟩
theorem RW.out(r:RW K H0 zE zA ow H ρ σ){s:S}{v:V}(hs:s≠.z)(x:Ext zA H H')(h:RvS K zA H H' s v):RvS K zE H0 H' s v:=by
 have sm:a30 (hz zA H') (hz zE H'):=by
  rcases r.zok with rfl | ⟨rfl,_⟩
  ·exact a30.refl _
  ·exact F51 _ _
 cases s with
 |d y=>exact Hd.same sm h|z=>exact absurd rfl hs
 |fr xs =>
  obtain⟨a,ys,rfl,h1,h2,h3,h4⟩:=h;obtain⟨k1,k2⟩:=r.young h1 h2;exact⟨a,ys,rfl,k1,k2,h3,h4.same (A20 λb o _ q=>sm b o q)⟩
theorem RW.F52(r:RW K H0 zE zA ow H ρ σ){i:Nat}{s:S}(hs:s≠.z)(e:ρ[i]?=some (some s)):∃ v,σ[i]?=some (some v)/\RvS K zE H0 H s v:=by
 obtain⟨v,h1,h2⟩:=r.wor i s e;have sm:a30 (hz zA H) (hz zE H):=by
  rcases r.zok with rfl | ⟨rfl,_⟩
  ·exact a30.refl _
  ·exact F51 _ _
 refine⟨v,h1,?_⟩;cases s with
 |d y=>exact Hd.same (a30.trans i70 sm) h2.2|z=>exact absurd rfl hs
 |fr xs =>
  obtain⟨a,ys,k1,rfl,k3,k4⟩:=h2;have n:=r.zne i a k1;have hE:zE≠some a:=λq=>by
   rcases r.zok with rfl | ⟨rfl,_⟩
   ·exact n q
   ·cases q
  refine⟨a,ys,rfl,r.new i a k1,hE,k3,k4.same λb o q=>?_⟩;obtain⟨q1,q2⟩:=B30 q;exact G90 (sm b o q1) λz=>q2 i (by rw[z];exact k1)
theorem RW.S40(r:RW K H0 zE zA ow H ρ σ):RW K H0 zE zA (λ_=>none) H (S40 ρ) σ:=by
 refine⟨by unfold Q.S40;rw[Ë];exact r.len,λi j a h=>(by cases h),λi a h=>(by cases h),λi a h=>(by cases h),λi s e=>?_,r.ext,r.zok,λi a h=>(by cases h)⟩
 unfold Q.S40 at e;rw[Û] at e;obtain⟨o,e1,e2⟩:=É.mp e;cases o with
 |none=>cases e2
 |some s0 =>
  cases e2;obtain⟨v,h1,h2⟩:=r.I50 i s0 e1;refine⟨v,h1,?_⟩;cases s0 with
  |d y=>exact⟨rfl,by rw[q20];exact h2⟩|fr xs=>exact⟨rfl,by rw[q20];exact h2⟩|z=>exact⟨rfl,h2⟩
def ow0(ow:Nat->Option Ç)(i:Nat):Nat->Option Addr:=λj=>if j=i then none else ow j
def ow1(ow:Nat->Option Ç)(i:Nat)(a:Ç):Nat->Option Addr:=λj=>if j=i then some a else ow j
theorem RvW.move{ow':Nat->Option Ç}{j:Nat}{s:S}{v:V}(h:RvW K zA ow H j s v)(e:ow' j=ow j)(sm:a30 (hw ow (hz zA H)) (hw ow' (hz zA H')))(hk:∀ a,ow j=some a->H' a=H a):RvW K zA ow' H' j s v:=by
 cases s with
 |d y=>exact⟨by rw[e];exact h.1,h.2.same sm⟩|z=>exact⟨by rw[e];exact h.1,h.2⟩
 |fr xs =>
  obtain⟨a,ys,h1,rfl,h3,h4⟩:=h;exact⟨a,ys,by rw[e];exact h1,rfl,by rw[hk a h1];exact h3,h4.same sm⟩
theorem getElem?_set'{α:Type}{l:List α}{i j:Nat}{x y:α}(h:(l.set i x)[j]?=some y):(j=i/\y=x/\i < l.length)∨(j≠i/\l[j]?=some y):=by
 by_cases hj:j=i
 ·subst hj;have hlt:j < l.length:=by
   have:=(Þ.mp h).1;simpa using this
  rw[æ hlt] at h;cases h;exact .inl ⟨rfl,rfl,hlt⟩
 ·rw[ß (À4 hj)] at h;exact .inr ⟨hj,h⟩
theorem RW.F62(r:RW K H0 zE zA ow H ρ σ){i:Nat}(h:Hd K (hw ow (hz zA H)) x v):RW K H0 zE zA (ow0 ow i) H (ρ.set i (some (.d x))) (σ.set i (some v)):=by
 have sub:∀ j a,ow0 ow i j=some a->j≠i/\ow j=some a:=λj a e=>by
  unfold ow0 at e;split at e
  ·cases e
  ·rename_i n;exact⟨n,e⟩
 have sm:a30 (hw ow (hz zA H)) (hw (ow0 ow i) (hz zA H)):=λb o e=>by
  obtain⟨e1,e2⟩:=B30 e;exact h00 e1 λj q=>e2 j (sub j b q).2
 refine⟨by rw[Â6,Â6];exact r.len,λj k a h1 h2=>r.inj j k a (sub j a h1).2 (sub k a h2).2,λj a h1=>r.zne j a (sub j a h1).2,λj a h1=>?_,λj s e=>?_,r.ext,r.zok,λj a h1=>r.new j a (sub j a h1).2⟩
 ·obtain⟨n,h2⟩:=sub j a h1;obtain⟨xs,h3⟩:=r.own j a h2;exact⟨xs,by rw[ß (À4 n)];exact h3⟩
 ·rcases getElem?_set' e with ⟨rfl,e1,hlt⟩ | ⟨n,e1⟩
  ·cases e1;exact⟨v,æ (by rw[← r.len];exact hlt),by unfold ow0;exact if_pos rfl,h.same sm⟩
  ·obtain⟨w,h1,h2⟩:=r.wor j s e1;exact⟨w,by rw[ß (À4 n)];exact h1,h2.move (by unfold ow0;exact if_neg n) sm λ_ _=>rfl⟩
theorem RW.F72(r:RW K H0 zE zA ow H ρ σ){i:Nat}{t:S}{v:V}(h:RvW K zA (ow0 ow i) H i t v):RW K H0 zE zA (ow0 ow i) H (ρ.set i (some t)) (σ.set i (some v)):=by
 have sub:∀ j a,ow0 ow i j=some a->j≠i/\ow j=some a:=λj a e=>by
  unfold ow0 at e;split at e
  ·cases e
  ·rename_i n;exact⟨n,e⟩
 have sm:a30 (hw ow (hz zA H)) (hw (ow0 ow i) (hz zA H)):=λb o e=>by
  obtain⟨e1,e2⟩:=B30 e;exact h00 e1 λj q=>e2 j (sub j b q).2
 refine⟨by rw[Â6,Â6];exact r.len,λj k a h1 h2=>r.inj j k a (sub j a h1).2 (sub k a h2).2,λj a h1=>r.zne j a (sub j a h1).2,λj a h1=>?_,λj s e=>?_,r.ext,r.zok,λj a h1=>r.new j a (sub j a h1).2⟩
 ·obtain⟨n,h2⟩:=sub j a h1;obtain⟨xs,h3⟩:=r.own j a h2;exact⟨xs,by rw[ß (À4 n)];exact h3⟩
 ·rcases getElem?_set' e with ⟨rfl,e1,hlt⟩ | ⟨n,e1⟩
  ·cases e1;exact⟨v,æ (by rw[← r.len];exact hlt),h⟩
  ·obtain⟨w,h1,h2⟩:=r.wor j s e1;exact⟨w,by rw[ß (À4 n)];exact h1,h2.move (by unfold ow0;exact if_neg n) sm λ_ _=>rfl⟩
theorem RW.F82(r:RW K H0 zE zA ow H ρ σ){i:Nat}(x:Ext zA H H')(hn:H a=none)(za:zA≠some a)(hl:H' a=some (.lst ys))(h:HdA K (hw (ow1 ow i a) (hz zA H')) xs ys)(hi:i < ρ.length) :
  RW K H0 zE zA (ow1 ow i a) H' (ρ.set i (some (.fr xs))) (σ.set i (some (.ref a))):=by
 have r':=r.mono x;have old:∀ j b,ow j=some b->b≠a:=λj b e q=>by
  obtain⟨zs,h1⟩:=r.lst j b e;rw[q,hn] at h1;cases h1
 have sub:∀ j b,ow1 ow i a j=some b->(j=i/\b=a)∨(j≠i/\ow j=some b):=λj b e=>by
  unfold ow1 at e;split at e
  ·rename_i n;cases e;exact .inl ⟨n,rfl⟩
  ·rename_i n;exact .inr ⟨n,e⟩
 have sm:a30 (hw ow (hz zA H)) (hw (ow1 ow i a) (hz zA H')):=λb o e=>by
  obtain⟨e1,e2⟩:=B30 e;have e3:=(q10 e1).1;have hb:b≠a:=λq=>by rw[q,hn] at e3;cases e3
  refine h00 (x b o e1) λj q=>?_;rcases sub j b q with ⟨_,q⟩ | ⟨_,q⟩
  ·exact hb q
  ·exact e2 j q
 refine⟨by rw[Â6,Â6];exact r.len,λj k b h1 h2=>?_,λj b h1=>?_,λj b h1=>?_,λj s e=>?_,r'.ext,r.zok,λj b h1=>?_⟩
 ·rcases sub j b h1 with ⟨q1,q2⟩ | ⟨q1,q2⟩
  ·rcases sub k b h2 with ⟨p1,p2⟩ | ⟨p1,p2⟩
   ·rw[q1,p1]
   ·exact absurd q2 (old k b p2)
  ·rcases sub k b h2 with ⟨p1,p2⟩ | ⟨p1,p2⟩
   ·exact absurd p2 (old j b q2)
   ·exact r.inj j k b q2 p2
 ·rcases sub j b h1 with ⟨_,q2⟩ | ⟨_,q2⟩
  ·rw[q2];exact za
  ·exact r.zne j b q2
 ·rcases sub j b h1 with ⟨q1,q2⟩ | ⟨q1,q2⟩
  ·rw[q1];exact⟨xs,æ hi⟩
  ·obtain⟨zs,h3⟩:=r.own j b q2;exact⟨zs,by rw[ß (À4 q1)];exact h3⟩
 ·rcases getElem?_set' e with ⟨rfl,e1,hlt⟩ | ⟨n,e1⟩
  ·cases e1;exact⟨.ref a,æ (by rw[← r.len];exact hlt),a,ys,by unfold ow1;exact if_pos rfl,rfl,hl,h⟩
  ·obtain⟨w,h1,h2⟩:=r.wor j s e1;refine⟨w,by rw[ß (À4 n)];exact h1,h2.move (by unfold ow1;exact if_neg n) sm λb q=>?_⟩
   obtain⟨zs,k⟩:=r.lst j b q;rw[k];exact x.at k (r.zne j b q)
 ·rcases sub j b h1 with ⟨_,q2⟩ | ⟨_,q2⟩
  ·rw[q2];exact(r.young hn za).1
  ·exact r.new j b q2
theorem RW.upd(r:RW K H0 zE zA ow H ρ σ){i:Nat}(e:ow i=some a)(h:HdA K (hw ow (hz zA H)) xs ys):RW K H0 zE zA ow (upd H a (.lst ys)) (ρ.set i (some (.fr xs))) σ:=by
 have za:=r.zne i a e;have sm:a30 (hw ow (hz zA H)) (hw ow (hz zA (L2.upd H a (.lst ys)))):=λb o q=>by
  obtain⟨e1,e2⟩:=B30 q;obtain⟨e3,e4⟩:=q10 e1;have hb:b≠a:=λz=>e2 i (by rw[z];exact e)
  exact h00 (c90 (by rw[a60 hb];exact e3) e4 (s00 e1)) e2
 obtain⟨xs0,h0⟩:=r.own i a e;have hi:i < ρ.length:=(Þ.mp h0).1;obtain⟨v0,s0,a0,ys0,q1,q2,q3,q4⟩:=r.wor i _ h0;rw[e] at q1;cases q1;refine⟨by rw[Â6];exact r.len,r.inj,r.zne,λj b h1=>?_,λj s q=>?_,⟨λb o q=>?_,λb ps q=>?_⟩,r.zok,r.new⟩
 ·by_cases hj:j=i
  ·subst hj;exact⟨xs,æ hi⟩
  ·obtain⟨zs,h3⟩:=r.own j b h1;exact⟨zs,by rw[ß (À4 hj)];exact h3⟩
 ·rcases getElem?_set' q with ⟨rfl,e1,hlt⟩ | ⟨n,e1⟩
  ·cases e1;exact⟨v0,s0,a,ys,e,q2,c20,h.same sm⟩
  ·obtain⟨w,h1,h2⟩:=r.wor j s e1;refine⟨w,h1,h2.move rfl sm λb q=>?_⟩;have hb:b≠a:=λz=>n (r.inj j i b q (by rw[z];exact e))
   exact a60 hb
 ·obtain⟨e1,e2⟩:=q10 (r.ext b o q);have hb:b≠a:=λz=>by
   have:=(q10 q).1;rw[z,r.new i a e] at this;cases this
  exact c90 (by rw[a60 hb];exact e1) e2 (s00 q)
 ·obtain⟨qs,e1⟩:=r.ext.tbl b ps q;have hb:b≠a:=λz=>by rw[z,q3] at e1;cases e1
  exact⟨qs,by rw[a60 hb];exact e1⟩
end
end Q
namespace Q
open PySem L2 PySem.Spec PyProof.Rows
variable [TB:Tb]
def k72:Option Ç->Z->Z
 |none,_=>none|some _,z=>z
def q30(K:Â)(G:Gs)(E:XK)(H0:Hp)(zE:Option Ç)(B:Hp)(D:Ends):R O->Prop
 |.ok (.nx ρ) z=>∀ zA ow σ H,RW K H0 zE zA ow H ρ σ->d60 zA z H->a30 B (hw ow (hz zA H))->D.nx σ H|.ok (.rt s) z=>∀ v H,s≠.z->Ext zE H0 H->d60 zE (k72 zE z) H->RvS K zE H0 H s v->D.rt v H|.er c z=>∀ e H,Ext zE H0 H->d60 zE (k72 zE z) H->H e=none->E (.ref (G.cls c)) (some e) H
def tX(K:Â)(G:Gs)(E:XK)(H0:Hp)(zE:Option Ç)(x:Sm):TS:=λD σ H=>∃ zA ow ρ z r,RW K H0 zE zA ow H ρ σ/\d60 zA z H/\ex G.F zE.isNone x ρ z=some r/\q30 K G E H0 zE (hw ow (hz zA H)) D r
section
variable {K:Â}{G:Gs}{E:XK}{H0 H H':Hp}{zE zA:Option Ç}{ow:Nat->Option Ç}{ρ:Env}{σ:L2.St}{Dn:Ends}{z:Z}
theorem U21(zok:zA=zE∨(zE=none/\∀ a,zA=some a->H0 a=none))(st:d60 zA z H):d60 zE (k72 zE z) H:=by
 cases zE with
 |none=>exact⟨trivial,st.tab⟩
 |some a =>
  rcases zok with rfl | ⟨h,_⟩
  ·exact st
  ·cases h
theorem q30.er_(po:q30 K G E H0 zE B Dn (.er c z))(r:RW K H0 zE zA ow H ρ σ):EPost G zA E c z H:=λe H' x st n=>po e H' (n91 r.ext r.zok x) (U21 r.zok st) n
theorem q30.ers(po:q30 K G E H0 zE B Dn rr)(r:RW K H0 zE zA ow H ρ σ):∀ c z1,rr=.er c z1->EPost G zA E c z1 H:=λc z1 e=>by subst e;exact po.er_ r
theorem q30.mono(po:q30 K G E H0 zE B Dn rr)(h:a30 B B'):q30 K G E H0 zE B' Dn rr:=by
 match rr,po with
 |.ok (.nx _) _,po=>exact λzA ow σ H r st sm=>po zA ow σ H r st (a30.trans h sm)|.ok (.rt _) _,po=>exact po|.er _ _,po=>exact po
theorem y20(ow:Nat->Option Ç)(i:Nat):a30 (hw ow H) (hw (ow0 ow i) H):=λb o e=>by
 obtain⟨e1,e2⟩:=B30 e;refine h00 e1 λj q=>?_;unfold ow0 at q;split at q
 ·cases q
 ·exact e2 j q
theorem B40(ow:Nat->Option Ç):a30 (hw ow H) (hw (λ_=>none) H):=λb o e=>h00 (B30 e).1 λj q=>nomatch q
theorem z91(x:Ext zA H H')(hn:H a=none)(i:Nat):a30 (hw ow (hz zA H)) (hw (ow1 ow i a) (hz zA H')):=λb o e=>by
 obtain⟨e1,e2⟩:=B30 e;have e3:=(q10 e1).1;have hb:b≠a:=λq=>by rw[q,hn] at e3;cases e3
 refine h00 (x b o e1) λj q=>?_;unfold ow1 at q;split at q
 ·cases q;exact hb rfl
 ·exact e2 j q
theorem o01(e:ow i=some a):a30 (hw ow (hz zA H)) (hw ow (hz zA (upd H a o))):=λb u q=>by
 obtain⟨e1,e2⟩:=B30 q;obtain⟨e3,e4⟩:=q10 e1;have hb:b≠a:=λw=>e2 i (by rw[w];exact e)
 exact h00 (c90 (by rw[a60 hb];exact e3) e4 (s00 e1)) e2
mutual
theorem A01:∀ {p:Pat}{d:D}{ρ ρ':Env},d50 p d ρ=some ρ'->∀ {ow:Nat->Option Ç}{σ:L2.St}{v:V}{R:L2.St->Hp->Prop},RW K H0 zE zA ow H ρ σ->Hd K (hw ow (hz zA H)) d v ->
  (∀ ow' σ',RW K H0 zE zA ow' H ρ' σ'->a30 (hw ow (hz zA H)) (hw ow' (hz zA H))->R σ' H)->gP K p v σ H R
 |.v i,d,ρ,ρ',e,ow,σ,v,R,r,hd,k=>by
  unfold d50 at e;cases e;unfold gP;exact k _ _ (r.F62 hd) (y20 ow i)
 |.tup ps,d,ρ,ρ',e,ow,σ,v,R,r,hd,k=>by
  unfold d50 at e;cases d with
  |tup l =>
   obtain⟨a,xs,rfl,h1,h2⟩:=hd.x90;unfold gP;exact⟨a,xs,rfl,(a20 zA H).sqT (a30.sqT i70 h1),by rw[h2.length];exact B20 e,Z20 e r h2 k⟩
  |_=>cases e
 |.nil,_,_,_,e,_,_,_,_,_,_,_=>by unfold d50 at e;cases e
 |.cons _ _,_,_,_,e,_,_,_,_,_,_,_=>by unfold d50 at e;cases e
theorem Z20:∀ {r:Pat}{l:List D}{ρ ρ':Env},bindL r l ρ=some ρ'->∀ {ow:Nat->Option Ç}{σ:L2.St}{vs:List V}{R:L2.St->Hp->Prop},RW K H0 zE zA ow H ρ σ->HdA K (hw ow (hz zA H)) l vs ->
  (∀ ow' σ',RW K H0 zE zA ow' H ρ' σ'->a30 (hw ow (hz zA H)) (hw ow' (hz zA H))->R σ' H)->gL K r vs σ H R
 |.nil,l,ρ,ρ',e,ow,σ,vs,R,r,hd,k=>by
  unfold bindL at e;cases l with
  |nil =>
   cases e;unfold gL;exact⟨hd.e70,k ow σ r (a30.refl _)⟩
  |cons x l=>cases e
 |.cons p q,l,ρ,ρ',e,ow,σ,vs,R,r,hd,k=>by
  unfold bindL at e;cases l with
  |nil=>cases e
  |cons x l =>
   obtain⟨ρ1,e1,e2⟩:=Ê.mp e;obtain⟨v,ws,rfl,h1,h2⟩:=hd.b70;unfold gL;exact⟨v,ws,rfl,A01 e1 r h1 λow' σ' r' sm=>Z20 e2 r' (h2.same sm) λow2 σ2 r2 sm2=>k ow2 σ2 r2 (a30.trans sm sm2)⟩
 |.v _,_,_,_,e,_,_,_,_,_,_,_=>by unfold bindL at e;cases e
 |.tup _,_,_,_,e,_,_,_,_,_,_,_=>by unfold bindL at e;cases e
end
theorem T80(r:RW K H0 zE zA ow H ρ σ)(s:S):∃ ow',RW K H0 zE zA ow' H (e80 s ρ) σ/\a30 (hw ow (hz zA H)) (hw ow' (hz zA H))/\(C80 s=true∨∀ i,ow' i=none):=by
 unfold e80;rw[N40];cases hb:C80 s with
 |true=>exact⟨ow,r,a30.refl _,.inl rfl⟩|false=>exact⟨_,r.S40,B40 ow,.inr λ_=>rfl⟩
theorem Z30{p:Pat}{s:S}{v:V}{ρ':Env}{R:L2.St->Hp->Prop}(r:RW K H0 zE zA ow H ρ σ)(x:Ext zA H H')(rv:RvS K zA H H' s v)(e:A50 p s (e80 s ρ)=some ρ')
  (k:∀ ow' σ',RW K H0 zE zA ow' H' ρ' σ'->a30 (hw ow (hz zA H)) (hw ow' (hz zA H'))->R σ' H'):gP K p v σ H' R:=by
 obtain⟨owk,r1,s1,b1⟩:=T80 r s;have r2:=r1.mono x;have s2:a30 (hw ow (hz zA H)) (hw owk (hz zA H')):=a30.trans s1 (c70 x);cases s with
 |d y =>
  have e':d50 p y (e80 (.d y) ρ)=some ρ':=by cases p <;> exact e
  refine A01 e' r2 ?_ λow' σ' r3 s3=>k ow' σ' r3 (a30.trans s2 s3);rcases b1 with b1 | b1
  ·exact I40 r2.F41 b1 rv
  ·have:owk=λ_=>none:=funext b1;subst this;rw[q20];exact rv
 |z =>
  cases p with
  |v i =>
   simp only[A50] at e;split at e
   ·cases e;unfold gP;exact k _ _ (r2.F72 (t:=.z) ⟨if_pos rfl,rv⟩) (a30.trans s2 (y20 owk i))
   ·cases e
  |_=>cases e
 |fr xs =>
  cases p with
  |v i =>
   simp only[A50] at e;split at e
   ·rename_i hi;cases e;unfold gP;obtain⟨a,ys,rfl,h1,h2,h3,h4⟩:=rv;refine k _ _ (r1.F82 x h1 h2 h3 ?_ hi) (a30.trans s1 (z91 x h1 i));rcases b1 with b1 | b1
    ·refine s50 (λj b q=>?_) b1 (h4.same (e40 a _));unfold ow1 at q;split at q
     ·cases q;exact⟨ys,c90 h3 h2⟩
     ·exact r2.F41 j b q
    ·refine h4.same λb o q=>?_;have hb:b≠a:=λw=>by subst w;unfold hide at q;rw[if_pos rfl] at q;cases q
     refine h00 (e40 a _ b o q) λj w=>?_;unfold ow1 at w;split at w
     ·cases w;exact hb rfl
     ·rw[b1 j] at w;cases w
   ·cases e
  |_=>cases e
end
end Q
namespace Q
open PySem L2 PySem.Spec PyProof.Rows
variable [TB:Tb]
theorem P11(h:j40 v=false):À1 [tg] v env=pure none:=by
 cases tg <;> first | rfl | (cases v <;> first | (cases h;done) | rfl)
theorem P21(h:vs.all (Ë1 8)=true):À1 [.Tuple ts k p] (.Tuple vs k' p') env=pure none:=by
 unfold À1;simp only[h,if_true];split
 ·rfl
 ·split
  ·rfl
  ·split
   ·rfl
   ·rfl
def o11(look:Str->Option Å7):Í->Bool
 |.Name id _=>look id != some .local|_=>true
theorem P31(h:ts.any (o11 env.kindOf)=true):À1 [.Tuple ts k p] (.Tuple vs k' p') env=pure none:=by
 have hl:∀ (l:Nat) (ts:List Í),ts.any (o11 env.kindOf)=true->(ts.filterMap fun
   |.Name id pos=>if env.kindOf id == some .local&&pos.line == l then some id else none
   |_=>none).length < ts.length:=by
  intro l ts
  induction ts with
  |nil=>intro h;cases h
  |cons e r ih =>
   intro h;have le:=List.length_filterMap_le (fun
    |.Name id pos=>if env.kindOf id == some .local&&pos.line == l then some id else none
    |_=>none:Í->Option Str) r
   rw[List.any_cons,Ã3] at h;rw[À5];split
   ·rw[Ø];omega
   ·rename_i b hb;rcases h with h | h
    ·exfalso;cases e with
     |Name id pos =>
      have h':(env.kindOf id != some .local)=true:=h;simp only[bne_iff_ne,ne_eq] at h';simp[h'] at hb
     |_=>cases hb
    ·have:=ih h;rw[Ø,Ø];omega
 unfold À1;dsimp only;split
 ·rfl
 ·split
  ·rfl
  ·have:=hl ((ts.head?.map (·.pos.line)).getD 0) ts h;rw[if_pos];simp only[Ã3,bne_iff_ne,ne_eq];exact .inl (ã this)
theorem e02{x y:Str}{a b:Í}{px py pt pt2:Pos}{k k2:Nat}{env:Å9}(hb:env.blockKind=.function)(hx:env.kindOf x=some .local)(hy:env.kindOf y=some .local)(hxy:(x == y)=false)(hl:(py.line == px.line)=true)
  (ha:noStar a=true) (hb':noStar b=true) (hf:[a,b].all (Ë1 8)=false) (hc:[a,b].all (Ô4 8)=false) :
  À1 [.Tuple [.Name x px,.Name y py] k pt] (.Tuple [a,b] k2 pt2) env=pure (some [x,y]):=by
 have hbk:(env.blockKind != .function)=false:=by rw[hb];rfl
 have e1:(x == x)=true:=beq_self_eq_true x;have hyx:(y == x)=false:=by
  cases h:y == x with
  |false=>rfl|true=>rw[beq_iff_eq] at h;subst h;rw[e1] at hxy;cases hxy
 have hl2:(Í.Name x px).pos.line=px.line:=rfl;have hl3:(Í.Name y py).pos.line=py.line:=rfl;have hl':py.line=px.line:=by simpa using hl
 unfold À1;simp only[List.filterMap,head?,É2,Option.getD,hx,hy,hf,hc,hbk,hl2,hl'];simp[List.eraseDups,List.eraseDupsBy,Ô8,hyx,hxy];intro h;rcases h with h | h
 ·cases a <;> first | (cases h;done) | (cases ha;done)
 ·cases b <;> first | (cases h;done) | (cases hb';done)
theorem P41{x y:Str}(h:(x == y)=false):(y == x)=false:=by
 cases k:y == x with
 |false=>rfl|true=>rw[beq_iff_eq] at k;subst k;rw[beq_self_eq_true] at h;cases h
theorem P51{x y u:Str}{a b c:Í}{px py pu pt pt2:Pos}{k k2:Nat}{env:Å9}(hb:env.blockKind=.function)(hx:env.kindOf x=some .local)(hy:env.kindOf y=some .local)(hu:env.kindOf u=some .local)(hxy:(x == y)=false)(hxu:(x == u)=false)(hyu:(y == u)=false)(hl:py.line=px.line)(hl':pu.line=px.line)
  (ha:noStar a=true) (hb':noStar b=true) (hc':noStar c=true) (hf:[a,b,c].all (Ë1 8)=false) (hc:[a,b,c].all (Ô4 8)=false) :
  À1 [.Tuple [.Name x px,.Name y py,.Name u pu] k pt] (.Tuple [a,b,c] k2 pt2) env=pure (some [x,y,u]):=by
 have hbk:(env.blockKind != .function)=false:=by rw[hb];rfl
 have hyx:=P41 hxy;have hux:=P41 hxu;have huy:=P41 hyu;have hl2:(Í.Name x px).pos.line=px.line:=rfl;unfold À1;simp only[List.filterMap,head?,É2,Option.getD,hx,hy,hu,hf,hc,hbk,hl2,hl,hl'];simp[List.eraseDups,List.eraseDupsBy,Ô8,hyx,hxy,hux,hxu,huy,hyu];intro h;rcases h with h | h | h
 ·cases a <;> first | (cases h;done) | (cases ha;done)
 ·cases b <;> first | (cases h;done) | (cases hb';done)
 ·cases c <;> first | (cases h;done) | (cases hc';done)
def O50:Í->Bool
 |.ListComp ..=>false|.SetComp ..=>false|.DictComp ..=>false|_=>true
theorem y30(h:O50 v=true)(t:Option Í):Ñ0 v t n env=pure false:=by
 cases v <;> first | rfl | (cases h;done)
theorem O60(h:(match tg with | .Name ..=>true | _=>false)=false):Ñ0 v (some tg) n env=pure false:=by
 cases v <;> first | rfl | (cases tg <;> first | rfl | (cases h;done))
theorem A11{el:Í}{gs:List Comprehension}{sc:À9}{p px:Pos}{t:Str}{n:Nat}{env:Å9}:∃ b,Ñ0 (.ListComp el gs sc p) (some (.Name t px)) n env=pure b:=⟨_,rfl⟩
structure XS(lm:Bool)(X:Cx)(G:Gs)(E:XK)(N:List Str)(sc:Scope)(cn:List Str):Prop extends XI lm X G E N sc where
 sco:X.env.scope=sc
 fnk:sc.kind=.function
 own:PassesOwn (model X.prog X.w) X.A X.env X.xe
 can:H30 X E
 fnx:∀ x,X.fn x=true
 cls:∀ c x,cn[c]?=some x->X.mg x=some (.ref (G.cls c))/\PySem.W.excIn X.K (G.cls c) [.type "ValueError",.type "Exception",.type "BaseException",.type "object"] "ValueError.__new__"=true
def I60(sc:À9)(x:Str):Bool:=sc.names.lookup x == some .local || sc.names.lookup x == some .cell
section
variable {lm:Bool}{X:Cx}{G:Gs}{E:XK}{N:List Str}{sc:À9}{cn:List Str}{H0:Hp}{zE:Option Ç}
theorem XS.loc(x:XS lm X G E N sc cn):z41 X N (I60 sc):=by
 refine⟨x.hN,x.nd,λy h=>?_,λy _=>.inl (x.fnx y),x.calm⟩;unfold I60 at h;rw[Ã3,beq_iff_eq,beq_iff_eq] at h;rw[x.sco];exact h
theorem XS.bk(x:XS lm X G E N sc cn):X.env.blockKind=.function:=by
 unfold Env.blockKind;rw[x.sco,x.fnk];rfl
theorem PS.imp{st:Å6}{t t':TS}(h:PS X st t)(i:∀ D σ H,t' D σ H->t D σ H):PS X st t':=λpins s σ H D I q=>h pins s σ H D I (i _ _ _ q)
theorem PSs.imp{st:List Å6}{t t':TS}(h:PSs X st t)(i:∀ D σ H,t' D σ H->t D σ H):PSs X st t':=λpins s σ H D I q=>h pins s σ H D I (i _ _ _ q)
theorem t22:PSs X [] (tX X.K G E H0 zE .nil):=PSs.imp I21 λD σ H q=>by
 obtain⟨zA,ow,ρ,z,r,rw,st,e,po⟩:=q;cases e;exact po zA ow σ H rw st (a30.refl _)
theorem t32{s r:Sm}{st:Å6}{rest:List Å6}(h1:PS X st (tX X.K G E H0 zE s))(h2:PSs X rest (tX X.K G E H0 zE r)):PSs X (st::rest) (tX X.K G E H0 zE (.seq s r)):=PSs.imp (u61 h1 h2) λD σ H q=>by
 obtain⟨zA,ow,ρ,z,rr,rw,st,e,po⟩:=q;have e0:M.bind (ex G.F zE.isNone s ρ) (λo=>match o with | .nx ρ=>ex G.F zE.isNone r ρ | .rt s=>M.ret (.rt s)) z=some rr:=e
 rcases M.bind_some e0 with ⟨o,z1,e1,e2⟩ | ⟨c,z1,e1,e2⟩
 ·refine⟨zA,ow,ρ,z,_,rw,st,e1,?_⟩;cases o with
  |nx ρ1=>exact λzA' ow' σ' H' rw' st' sm=>⟨zA',ow',ρ1,z1,rr,rw',st',e2,po.mono sm⟩|rt s=>cases e2;exact po
 ·subst e2;exact⟨zA,ow,ρ,z,_,rw,st,e1,po⟩
theorem F61{p:Pat}{e:Ex}{D:Ends}{σ:L2.St}{H:Hp}(q:tX X.K G E H0 zE (.set p e) D σ H):W11 (tI X.K G E e) (gP X.K p) D σ H:=by
 obtain⟨zA,ow,ρ,z,rr,rw,st,ee,po⟩:=q;refine g90 rw.I50 st ee (po.ers rw) λl z1 e1=>?_;obtain⟨s,hs,e2⟩:=M.a10 e1;refine⟨s,B00 hs,λv H1 x1 st1 rv=>?_⟩;obtain⟨ρ',hb,e3⟩:=M.a10 e2;cases e3;exact Z30 rw x1 rv hb λow' σ' r' sm=>po zA ow' σ' H1 r' st1 sm
theorem z22{K:Â}{i:Nat}:gP K (.v i)=c11 i:=by unfold gP;rfl
theorem t42(x:XS lm X G E N sc cn){i:Nat}{e:Ex}{y:Str}{v:Í}{px pos:Pos}(hi:N[i]?=some y)(hl:I60 sc y=true)(g:a70 X G E e v)
  (hc:∀ elt gs csc q,v=.ListComp elt gs csc q->∃ tg iter ifs,gs=[⟨tg,iter,ifs,0⟩]/\E30 X G E e elt tg iter ifs csc) (hno:∀ a b c d,v≠.SetComp a b c d)
  (hnd:∀ a b c d f,v≠.DictComp a b c d f) :
  PS X (.Assign [.Name y px] v pos) (tX X.K G E H0 zE (.set (.v i) e)):=by
 have L:=x.loc;refine PS.imp (t:=W11 (tI X.K G E e) (c11 i)) ?_ λD σ H q=>by rw[← z22 (K:=X.K)];exact F61 q
 have h1:X.N.Nodup:=by rw[x.hN];exact x.nd
 have h2:X.N[i]?=some y:=by rw[x.hN];exact hi
 by_cases hv:∃ elt gs csc q,v=.ListComp elt gs csc q
 ·obtain⟨elt,gs,csc,q,rfl⟩:=hv;obtain⟨b,hb⟩:=A11 (el:=elt) (gs:=gs) (sc:=csc) (p:=q) (px:=px) (t:=y) (n:=pos.line) (env:=X.env);cases b with
  |false=>exact g01 h1 h2 (L.lc y hl) g.pe hb (L.fn y hl)
  |true =>
   obtain⟨tg,iter,ifs,rfl,own,capt,wi,gg,tt,te,k1,k2,k3,k4,k5,k6,k7⟩:=hc elt gs csc q rfl;refine PS.imp (K31 h1 h2 (L.lc y hl) hb x.calm k1 k2 k3 k4 k5 k6 (L.fn y hl)) λD σ H q=>k7 _ _ _ q
 ·exact g01 h1 h2 (L.lc y hl) g.pe (y30 (by cases v <;> first | rfl | exact absurd rfl (hno _ _ _ _) | exact absurd rfl (hnd _ _ _ _ _) | exact absurd ⟨_,_,_,_,rfl⟩ hv) _) (L.fn y hl)
theorem o21(x:XS lm X G E N sc cn)(hp:g30 N (I60 sc) p tg=true)(g:a70 X G E e v)(ht:j40 tg=true)(hv:À1 [tg] v X.env=pure none) :
  PS X (.Assign [tg] v pos) (tX X.K G E H0 zE (.set p e)):=by
 refine PS.imp (D01 g.pe (m41 x.loc hp) ?_ hv ?_) λD σ H q=>F61 q
 ·exact O60 (by cases tg <;> first | rfl | (cases ht;done))
 ·cases tg <;> first | rfl | (cases ht;done)
theorem t52(x:XS lm X G E N sc cn){i j:Nat}{ea eb:Ex}{a b:Í}{y w:Str}{px py pt pt2 pos:Pos}{k k2:Nat}(hi:N[i]?=some y)(hj:N[j]?=some w)(hyw:(y == w)=false)(hy:sc.names.lookup y=some .local)(hw':sc.names.lookup w=some .local)
  (g:Good X G E (.cons ea (.cons eb .nil)) [a,b]) (hs:À1 [.Tuple [.Name y px,.Name w py] k pt] (.Tuple [a,b] k2 pt2) X.env=pure (some [y,w])) :
  PS X (.Assign [.Tuple [.Name y px,.Name w py] k pt] (.Tuple [a,b] k2 pt2) pos) (tX X.K G E H0 zE (.set (.tup (.cons (.v i) (.cons (.v j) .nil))) (.tup (.cons ea (.cons eb .nil))))):=by
 have hij:i≠j:=λh=>by
  subst h;rw[hi] at hj;cases hj;rw[beq_self_eq_true] at hyw;cases hyw
 refine PS.imp (W21 x.calm (by rw[x.hN];exact x.nd) (by rw[x.hN];exact hi) (by rw[x.hN];exact hj) hij (by rw[x.sco];exact hy) (by rw[x.sco];exact hw') (g.args rfl).1 hs rfl) λD σ H q=>?_
 obtain⟨zA,ow,ρ,z,rr,rw,st,ee,po⟩:=q;have e0:M.bind (M.bind (ev G.F (.cons ea (.cons eb .nil)) ρ) λl=>M.bind (M.of (plA l)) λds=>if ds.length<=most then M.ret [S.d (.tup ds)] else M.no) (λl=>M.bind (M.of (one l)) λs=>M.bind (M.of (A50 (.tup (.cons (.v i) (.cons (.v j) .nil))) s (e80 s ρ))) λρ=>M.ret (O.nx ρ)) z=some rr:=ee;rcases M.bind_some e0 with ⟨l0,z0,e1,e2⟩ | ⟨c,z1,e1,e2⟩
 ·rcases M.bind_some e1 with ⟨l,z1,e3,e4⟩ | ⟨c,z1,e3,e4⟩
  ·obtain⟨ds,hds,e5⟩:=M.a10 e4;split at e5
   ·cases e5;obtain⟨s,hs',e6⟩:=M.a10 e2;cases hs';obtain⟨ρ',hb,e7⟩:=M.a10 e6;cases e7;refine⟨zA,ρ,z,_,rw.I50,st,e3,λvs H1 x1 st1 rvs=>?_⟩;have hd:=C90 rvs hds;obtain⟨owk,r1,s1,b1⟩:=T80 rw (.d (.tup ds));have hb':bindL (.cons (.v i) (.cons (.v j) .nil)) ds (e80 (.d (.tup ds)) ρ)=some ρ':=by
     have:d50 (.tup (.cons (.v i) (.cons (.v j) .nil))) (.tup ds) (e80 (.d (.tup ds)) ρ)=some ρ':=hb;unfold d50 at this;exact this
    have r2:=r1.mono x1;have hd2:HdA X.K (hw owk (hz zA H1)) ds vs:=by
     rcases b1 with b1 | b1
     ·exact s50 r2.F41 (by simpa [C80,bare] using b1) hd
     ·have:owk=λ_=>none:=funext b1;subst this;rw[q20];exact hd
    have:=Z20 hb' (R:=D.nx) r2 hd2 λow' σ' r' sm=>po zA ow' σ' H1 r' st1 (a30.trans s1 (a30.trans (c70 x1) sm));unfold gL at this;obtain⟨v,vr,rfl,this⟩:=this;unfold gP gL at this;obtain⟨u,ur,rfl,this⟩:=this;unfold gP gL at this;obtain⟨rfl,this⟩:=this;exact⟨v,u,rfl,this⟩
   ·cases e5
  ·cases e4
 ·subst e2;rcases M.bind_some e1 with ⟨l,z2,e3,e4⟩ | ⟨c,z2,e3,e4⟩
  ·obtain⟨ds,hds,e5⟩:=M.a10 e4;split at e5 <;> cases e5
  ·cases e4;exact⟨zA,ρ,z,_,rw.I50,st,e3,po.er_ rw⟩
def t62(i j k:Nat)(ta:TA):TS:=λD σ H=>ta σ H λvs H1=>∃ v w u,vs=[v,w,u]/\D.nx (((σ.set i (some v)).set j (some w)).set k (some u)) H1
theorem P61{X:Cx}{pos:Pos}{i j l:Nat}{x y z:Str}{a b c:Í}{ta:TA}{px py pz pt:Pos}{kt k2 pt2}(hc:X.calm=true)(hN:X.N.Nodup)(hi:X.N[i]?=some x)(hj:X.N[j]?=some y)(hk:X.N[l]?=some z)(hij:i≠j)(hik:i≠l)(hjk:j≠l)
  (hx:X.env.scope.names.lookup x=some .local) (hy:X.env.scope.names.lookup y=some .local) (hz:X.env.scope.names.lookup z=some .local) (ha:PA X [a,b,c] ta)
  (hw:À1 [.Tuple [.Name x px,.Name y py,.Name z pz] kt pt] (.Tuple [a,b,c] k2 pt2) X.env=pure (some [x,y,z])) :
  PS X (.Assign [.Tuple [.Name x px,.Name y py,.Name z pz] kt pt] (.Tuple [a,b,c] k2 pt2) pos) (t62 i j l ta):=by
 intro pins s σ H D I h;rw[exec_Assign_arm];refine À (Ï7 ?_);rw[show swapsWithSole [.Tuple [.Name x px,.Name y py,.Name z pz] kt pt] (.Tuple [a,b,c] k2 pt2) pos.line X.env=pure false from rfl];refine À (Æ ?_);rw[if_neg (-0)]
 refine À (Tuple_ (thn (ha _ pins s σ H _ I h) λus s1 ⟨vs,H1,I1,r1,q1⟩=>?_));obtain⟨v,w,v3,e1,q1⟩:=q1;subst e1;obtain⟨u1,u2,u3,rfl,rv,rw',ru⟩:∃ u1 u2 u3,us=[u1,u2,u3]/\RelV v u1/\RelV w u2/\RelV v3 u3:=by
  cases r1 with
  |cons p q =>
   cases q with
   |cons p' q =>
    cases q with
    |cons p2 q=>cases q;exact⟨_,_,_,rfl,p,p',p2⟩
 refine å ?_ (by show 3<=sizeLine;decide)
 have I2:L2.Inv X pins σ H1 { s1 with heap:=s1.heap.push { cls:=.type "tuple",data:=.seq [u1,u2,u3].toArray } }:=I1.kept (t':=s1.toks) λb o e=>Ä _ e;rw[hw];refine À (Æ ?_);show Ï (Ô X.prog X.w) X.A (do rule "assign.swapped-stores";let items ← unpackItems (.ref s1.heap.objs.size) 3 none;Ï8 [λv=>Ë3 X.env z v,λv=>Ë3 X.env y v,λv=>Ë3 X.env x v] items.reverse;pure Flow.next) _ _ _;refine À (Ê7 (À (unpackItems_tuple (items:=#[u1,u2,u3]) (I.ok.hd hc) (Ê5.new s1.heap _) λh' hx'=>?_)));have I3:=I2.kept (h':=h') (t':=s1.toks) λb o e=>hx' b o (ã (Ý e)) e;show Ï _ _ (Ï8 [λv=>Ë3 X.env z v,λv=>Ë3 X.env y v,λv=>Ë3 X.env x v] [u3,u2,u1] >>= λ_=>pure Flow.next) _ _ _;refine À (Æ4 (Í5 (i00 I3 hN hk (.inl hz) ru (λs2 I4=>?_) (.inr hz))));refine Æ4 (Í5 (i00 I4 hN hj (.inl hy) rw' (λs3 I5=>?_) (.inr hy)));refine Æ4 (Í5 (i00 I5 hN hi (.inl hx) rv (λs4 I6=>Ù4 (Æ ?_)) (.inr hx)));rw[set_comm _ _ (À4 hij),set_comm _ _ (À4 hik),set_comm _ _ (À4 hjk)] at I6;exact⟨_,H1,I6,q1⟩
theorem P71{i j:Nat}{y w:Str}(hi:N[i]?=some y)(hj:N[j]?=some w)(h:(y == w)=false):i≠j:=λe=>by
 subst e;rw[hi] at hj;cases hj;rw[beq_self_eq_true] at h;cases h
theorem e12(x:XS lm X G E N sc cn){i j l:Nat}{ea eb ec:Ex}{a b c:Í}{y w u:Str}{px py pu pt pt2 pos:Pos}{k k2:Nat}(hi:N[i]?=some y)(hj:N[j]?=some w)(hk:N[l]?=some u)(hyw:(y == w)=false)(hyu:(y == u)=false)(hwu:(w == u)=false)(hy:sc.names.lookup y=some .local)(hw':sc.names.lookup w=some .local)(hu:sc.names.lookup u=some .local)
  (g:Good X G E (.cons ea (.cons eb (.cons ec .nil))) [a,b,c]) (hs:À1 [.Tuple [.Name y px,.Name w py,.Name u pu] k pt] (.Tuple [a,b,c] k2 pt2) X.env=pure (some [y,w,u])) :
  PS X (.Assign [.Tuple [.Name y px,.Name w py,.Name u pu] k pt] (.Tuple [a,b,c] k2 pt2) pos) (tX X.K G E H0 zE (.set (.tup (.cons (.v i) (.cons (.v j) (.cons (.v l) .nil)))) (.tup (.cons ea (.cons eb (.cons ec .nil)))))):=by
 refine PS.imp (P61 x.calm (by rw[x.hN];exact x.nd) (by rw[x.hN];exact hi) (by rw[x.hN];exact hj) (by rw[x.hN];exact hk) (P71 hi hj hyw) (P71 hi hk hyu) (P71 hj hk hwu) (by rw[x.sco];exact hy) (by rw[x.sco];exact hw') (by rw[x.sco];exact hu) (g.args rfl).1 hs) λD σ H q=>?_
 obtain⟨zA,ow,ρ,z,rr,rw,st,ee,po⟩:=q;have e0:M.bind (M.bind (ev G.F (.cons ea (.cons eb (.cons ec .nil))) ρ) λl=>M.bind (M.of (plA l)) λds=>if ds.length<=most then M.ret [S.d (.tup ds)] else M.no) (λl'=>M.bind (M.of (one l')) λs=>M.bind (M.of (A50 (.tup (.cons (.v i) (.cons (.v j) (.cons (.v l) .nil)))) s (e80 s ρ))) λρ=>M.ret (O.nx ρ)) z=some rr:=ee;rcases M.bind_some e0 with ⟨l0,z0,e1,e2⟩ | ⟨c,z1,e1,e2⟩
 ·rcases M.bind_some e1 with ⟨l',z1,e3,e4⟩ | ⟨c,z1,e3,e4⟩
  ·obtain⟨ds,hds,e5⟩:=M.a10 e4;split at e5
   ·cases e5;obtain⟨s,hs',e6⟩:=M.a10 e2;cases hs';obtain⟨ρ',hb,e7⟩:=M.a10 e6;cases e7;refine⟨zA,ρ,z,_,rw.I50,st,e3,λvs H1 x1 st1 rvs=>?_⟩;have hd:=C90 rvs hds;obtain⟨owk,r1,s1,b1⟩:=T80 rw (.d (.tup ds));have hb':bindL (.cons (.v i) (.cons (.v j) (.cons (.v l) .nil))) ds (e80 (.d (.tup ds)) ρ)=some ρ':=by
     have:d50 (.tup (.cons (.v i) (.cons (.v j) (.cons (.v l) .nil)))) (.tup ds) (e80 (.d (.tup ds)) ρ)=some ρ':=hb;unfold d50 at this;exact this
    have r2:=r1.mono x1;have hd2:HdA X.K (hw owk (hz zA H1)) ds vs:=by
     rcases b1 with b1 | b1
     ·exact s50 r2.F41 (by simpa [C80,bare] using b1) hd
     ·have:owk=λ_=>none:=funext b1;subst this;rw[q20];exact hd
    have:=Z20 hb' (R:=D.nx) r2 hd2 λow' σ' r' sm=>po zA ow' σ' H1 r' st1 (a30.trans s1 (a30.trans (c70 x1) sm));unfold gL at this;obtain⟨v,vr,rfl,this⟩:=this;unfold gP gL at this;obtain⟨u,ur,rfl,this⟩:=this;unfold gP gL at this;obtain⟨t,tr,rfl,this⟩:=this;unfold gP gL at this;obtain⟨rfl,this⟩:=this;exact⟨v,u,t,rfl,this⟩
   ·cases e5
  ·cases e4
 ·subst e2;rcases M.bind_some e1 with ⟨l',z2,e3,e4⟩ | ⟨c,z2,e3,e4⟩
  ·obtain⟨ds,hds,e5⟩:=M.a10 e4;split at e5 <;> cases e5
  ·cases e4;exact⟨zA,ρ,z,_,rw.I50,st,e3,po.er_ rw⟩
theorem F71{s t:S}(h:noS s=some t):s=t/\t≠.z:=by
 cases s with
 |z=>cases h
 |d _=>cases h;exact⟨rfl,λh=>nomatch h⟩
 |fr _=>cases h;exact⟨rfl,λh=>nomatch h⟩
theorem e22(x:XS lm X G E N sc cn){i:Nat}{n:Str}{p pos:Pos}(h1:N[i]?=some n)(h2:d20 n=true):PS X (.Return (some (.Name n p)) pos) (tX X.K G E H0 zE (.ret (.var i))):=by
 unfold d20 at h2;simp only[Á,ô] at h2;refine PS.imp (C91 (z10 (i:=i) (by rw[x.hN];exact h1) (x.vis n (ò h1)) h2.1 h2.2)) λD σ H q=>?_
 obtain⟨zA,ow,ρ,z,rr,rw,st,ee,po⟩:=q;have e0:(match ρ[i]? with | some (some s)=>M.bind (M.of (noS s)) λs=>M.ret (O.rt s) | _=>M.no) z=some rr:=ee
 cases hs:ρ[i]? with
 |none=>rw[hs] at e0;cases e0
 |some o =>
  cases o with
  |none=>rw[hs] at e0;cases e0
  |some s =>
   rw[hs] at e0;obtain⟨t,ht,e1⟩:=M.a10 e0;cases e1;obtain⟨rfl,nz⟩:=F71 ht;obtain⟨v,k1,k2⟩:=rw.F52 nz hs;exact⟨v,k1,po v H nz rw.ext (U21 rw.zok st) k2⟩
theorem t72(hv:∀ i,e≠.var i)(g:a70 X G E e v):PS X (.Return (some v) pos) (tX X.K G E H0 zE (.ret e)):=by
 refine PS.imp (C91 g.pe) λD σ H q=>?_;obtain⟨zA,ow,ρ,z,rr,rw,st,ee,po⟩:=q;have e0:M.bind (ev G.F e ρ) (λl=>M.bind (M.of ((one l).bind noS)) λs=>M.ret (O.rt s)) z=some rr:=by
  cases e <;> first | exact ee | exact absurd rfl (hv _)
 refine g90 rw.I50 st e0 (po.ers rw) λl z1 e1=>?_;obtain⟨t,ht,e2⟩:=M.a10 e1;cases e2;obtain⟨s,hs,hn⟩:=Ê.mp ht;obtain⟨rfl,nz⟩:=F71 hn;exact⟨s,B00 hs,λv H1 x1 st1 rv=>po v H1 nz (n91 rw.ext rw.zok x1) (U21 rw.zok st1) (rw.out nz x1 rv)⟩
theorem F92(g:a70 X G E c ce)(hn:∀ t a b p,ce≠.IfExp t a b p)(ha:PSs X a (tX X.K G E H0 zE t))(hb:PSs X b (tX X.K G E H0 zE u)) :
  PS X (.If ce a b pos) (tX X.K G E H0 zE (.iff c t u)):=by
 refine PS.imp (m22 (g.pt hn) ha hb) λD σ H q=>?_;obtain⟨zA,ow,ρ,z,rr,rw,st,ee,po⟩:=q;refine O10 rw.I50 st ee (po.ers rw) λb z1 e1 H1 x1 st1=>?_;have r1:=rw.mono x1;have sm:a30 (hw ow (hz zA H)) (hw ow (hz zA H1)):=c70 x1;cases b with
 |true=>exact⟨zA,ow,ρ,z1,rr,r1,st1,e1,po.mono sm⟩|false=>exact⟨zA,ow,ρ,z1,rr,r1,st1,e1,po.mono sm⟩
theorem t82(g:a70 X G E e v)(h:O50 v=true):PS X (.Expr v pos) (tX X.K G E H0 zE (.exp e)):=by
 refine PS.imp (f91 g.pe (y30 h none)) λD σ H q=>?_;obtain⟨zA,ow,ρ,z,rr,rw,st,ee,po⟩:=q;have e0:M.bind (ev G.F e ρ) (λl=>M.bind (M.of (one l)) λ_=>M.ret (O.nx ρ)) z=some rr:=ee;refine g90 rw.I50 st e0 (po.ers rw) λl z1 e1=>?_;obtain⟨s,hs,e2⟩:=M.a10 e1;cases e2;exact⟨s,B00 hs,λv H1 x1 st1 rv=>po zA ow σ H1 (rw.mono x1) st1 (c70 x1)⟩
def k82:Bi->Ë6->Bool
 |.mul,.Mult=>true|.add,.Add=>true|_,_=>false
theorem e32(h:k82 o op=true):PIp X op λx y H Q=>∃ i j k,x=.int i/\y=.int j/\u50 o (.int i) (.int j)=some (.d (.int k))/\Q (.int k) H:=by
 intro pins s σ H x y v u Q I r1 r2 q;obtain⟨i,j,k,rfl,rfl,e,q⟩:=q;obtain⟨t,rfl⟩:=r1;obtain⟨t',rfl⟩:=r2;cases o <;> cases op <;> first | (cases h;done) | skip
 ·cases e;exact iadd_int ⟨.int _,H,I.tok _,⟨_,rfl⟩,q⟩
 ·obtain⟨hl,e⟩:=e50 e;cases e;exact imul_int ⟨.int _,H,I.tok _,⟨_,rfl⟩,q⟩ (E11 hl.1 hl.2)
theorem P81{o:Bi}{op:Ë6}(h:k82 o op=true){i j:Int}{s:S}(e:u50 o (.int i) (.int j)=some s):∃ k,s=.d (.int k):=by
 cases o <;> cases op <;> first | (cases h;done) | skip
 ·cases e;exact⟨_,rfl⟩
 ·obtain⟨_,e⟩:=e50 e;cases e;exact⟨_,rfl⟩
theorem o31(h:asI d=some i):d=.int i:=by cases d <;> first | (cases h;rfl) | (cases h;done)
theorem t92(x:XS lm X G E N sc cn){i:Nat}{o:Bi}{e:Ex}{y:Str}{v:Í}{op:Ë6}{px pos:Pos}(hi:N[i]?=some y)(hl:I60 sc y=true)(ho:k82 o op=true)(g:a70 X G E e v):PS X (.AugAssign (.Name y px) op v pos) (tX X.K G E H0 zE (.aug o i e)):=by
 have L:=x.loc;refine PS.imp (W31 (i:=i) (by rw[x.hN];exact x.nd) (by rw[x.hN];exact hi) (L.lc y hl) g.pe (e32 ho) (L.fn y hl)) λD σ H q=>?_
 obtain⟨zA,ow,ρ,z,rr,rw,st,ee,po⟩:=q;obtain⟨yd,hy,e1⟩:=M.a10 ee;obtain⟨s0,hs0,hy⟩:=Ê.mp hy;have hr:ρ[i]?=some (some s0):=by
  cases h:ρ[i]? with
  |none=>rw[h] at hs0;cases hs0
  |some w=>rw[h] at hs0;cases hs0;rfl
 obtain⟨w,k1,k2⟩:=rw.wor i s0 hr;refine⟨w,k1,?_⟩;refine g90 rw.I50 st e1 (po.ers rw) λl z1 e2=>?_;obtain⟨xi,hx,e3⟩:=M.a10 e2;obtain⟨dx,hx1,hx2⟩:=Ê.mp hx;obtain⟨s1,rfl,hs1⟩:=e60 hx1;cases o31 hx2;refine⟨s1,rfl,λu H1 x1 st1 rv=>?_⟩;obtain⟨s2,hb,e4⟩:=M.a10 e3;obtain⟨yi,hyi,hb⟩:=Ê.mp hb;cases o31 hyi;obtain⟨k,rfl⟩:=P81 ho hb;have hw:w=.int yi:=by
  cases s0 with
  |d x=>cases hy;exact(show Hd X.K (hw ow (hz zA H)) (.int yi) w from k2.2).g70
  |_=>cases hy
 refine⟨yi,xi,k,hw,(show Hd X.K (hz zA H1) (.int xi) u from rv.pl.d_ hs1).g70,hb,?_⟩;obtain⟨ρ',hp,e5⟩:=M.a10 e4;cases e5;have:=Z30 (R:=λσ' H'=>D.nx σ' H') rw x1 g80 hp λow' σ' r' sm=>po zA ow' σ' H1 r' st1 sm;rw[z22] at this;exact this
theorem x_raise(x:XS lm X G E N sc cn){c:Nat}{n:Str}{y:Str}{k:Nat}{p1 p2 p3 p4:Pos}(hc:cn[c]?=some n)(hg:glob sc n=true):PS X (.Raise (some (.Call (.Name n p1) [.Constant (.str y) k p2] [] p3)) none p4) (tX X.K G E H0 zE (.rais c)):=by
 obtain⟨k1,k2,_⟩:=d30 hg;obtain⟨m1,m2⟩:=x.cls c n hc;refine PS.imp (y11 x.can x.calm (x.glb n k1) m1 m2 (l90 C81 L60) k2 rfl rfl) λD σ H q=>?_;obtain⟨zA,ow,ρ,z,rr,rw,st,ee,po⟩:=q;cases ee;exact⟨by show 1<=sizeLine;decide,λe hn=>po e H rw.ext (U21 rw.zok st) hn⟩
end
section
variable {K:Â}{H0 H H':Hp}{zE zA:Option Ç}{ow:Nat->Option Ç}{ρ:Env}{σ:L2.St}
theorem f80(e:ow0 ow i j=some a):j≠i/\ow j=some a:=by
 unfold ow0 at e;split at e
 ·cases e
 ·rename_i n;exact⟨n,e⟩
theorem y40:ow0 ow i i=none:=if_pos rfl
theorem o41(h:j≠i):ow0 ow i j=ow j:=if_neg h
theorem A21{ρ:Env}{j:Nat}{s:S}(h:(N20 ρ)[j]?=some (some s)):ρ[j]?=some (some s)/\s≠.z:=by
 unfold N20 at h;rw[Û] at h;obtain⟨o,e1,e2⟩:=É.mp h;cases o with
 |none=>cases e2
 |some t =>
  cases t with
  |z=>cases e2
  |d x=>cases e2;exact⟨e1,λh=>nomatch h⟩
  |fr x=>cases e2;exact⟨e1,λh=>nomatch h⟩
theorem P91{j:Nat}(h:ρ[j]?=some (some (.fr xs))):(N20 ρ)[j]?=some (some (.fr xs)):=by
 unfold N20;rw[Û,h];rfl
theorem RW.G02(r:RW K H0 none zA ow H ρ σ){i:Nat}(x:Ext zA H H')(hn:H a=none)(za:zA≠some a)(hl:H' a=some (.lst ys)) :
  RW K H0 none (some a) (ow0 ow i) H' ((N20 ρ).set i (some .z)) (σ.set i (some (.ref a)))/\a30 (hw ow (hz zA H)) (hw (ow0 ow i) (hz (some a) H')):=by
 have r':=r.mono x;have old:∀ j b,ow j=some b->b≠a:=λj b e q=>by
  obtain⟨zs,h1⟩:=r.lst j b e;rw[q,hn] at h1;cases h1
 have sm:a30 (hw ow (hz zA H)) (hw (ow0 ow i) (hz (some a) H')):=λb o e=>by
  obtain⟨e1,e2⟩:=B30 e;have hb:b≠a:=λq=>by
   have e3:H b=some o:=(q10 e1).1;rw[q,hn] at e3;cases e3
  exact h00 (c90 (q10 (x b o e1)).1 (λq=>by cases q;exact hb rfl) (s00 e1)) λj q=>e2 j (f80 q).2
 have dl:(N20 ρ).length=ρ.length:=by unfold N20;rw[Ë]
 refine⟨⟨by rw[Â6,Â6,dl];exact r.len,λj k b h1 h2=>r.inj j k b (f80 h1).2 (f80 h2).2,λj b h1 q=>?_,λj b h1=>?_,λj s e=>?_,r'.ext,.inr ⟨rfl,λb q=>?_⟩,λj b h1=>r.new j b (f80 h1).2⟩,sm⟩
 ·cases q;exact old j _ (f80 h1).2 rfl
 ·obtain⟨n,h2⟩:=f80 h1;obtain⟨xs,h3⟩:=r.own j b h2;exact⟨xs,by rw[ß (À4 n)];exact P91 h3⟩
 ·rcases getElem?_set' e with ⟨rfl,e1,hlt⟩ | ⟨n,e1⟩
  ·cases e1;exact⟨.ref a,æ (by rw[← r.len,← dl];exact hlt),y40,a,rfl,rfl⟩
  ·obtain⟨e1,nz⟩:=A21 e1;obtain⟨w,h1,h2⟩:=r.wor j s e1;refine⟨w,by rw[ß (À4 n)];exact h1,?_⟩
   cases s with
   |d y=>exact⟨by rw[o41 n];exact h2.1,h2.2.same sm⟩|z=>exact absurd rfl nz
   |fr xs =>
    obtain⟨b,zs,k1,rfl,k3,k4⟩:=h2;exact⟨b,zs,by rw[o41 n];exact k1,rfl,x.at k3 (r.zne j b k1),k4.same sm⟩
 ·cases q;exact(r.young hn za).1
theorem RW.plain(r:RW K H0 zE zA ow H ρ σ)(i:Nat):RW K H0 zE zA (ow0 ow i) H (ρ.set i ((ρ[i]?.getD none).map plS)) σ:=by
 have sm:=y20 (H:=hz zA H) ow i;refine⟨by rw[Â6];exact r.len,λj k b h1 h2=>r.inj j k b (f80 h1).2 (f80 h2).2,λj b h1=>r.zne j b (f80 h1).2,λj b h1=>?_,λj s e=>?_,r.ext,r.zok,λj b h1=>r.new j b (f80 h1).2⟩
 ·obtain⟨n,h2⟩:=f80 h1;obtain⟨xs,h3⟩:=r.own j b h2;exact⟨xs,by rw[ß (À4 n)];exact h3⟩
 ·rcases getElem?_set' e with ⟨rfl,e1,hlt⟩ | ⟨n,e1⟩
  ·cases hs:ρ[j]? with
   |none=>rw[hs] at e1;cases e1
   |some o =>
    rw[hs] at e1;cases o with
    |none=>cases e1
    |some s0 =>
     cases e1;obtain⟨w,h1,h2⟩:=r.wor j s0 hs;refine⟨w,h1,?_⟩;cases s0 with
     |d y=>exact⟨y40,h2.2.same sm⟩|z=>exact⟨y40,h2.2⟩
     |fr xs =>
      obtain⟨b,zs,k1,rfl,k3,k4⟩:=h2;refine⟨y40,Hd.lst (h00 (c90 k3 (r.zne j b k1)) λk q=>?_) (k4.same sm)⟩;obtain⟨q1,q2⟩:=f80 q;exact q1 (r.inj k j b q2 k1)
  ·obtain⟨w,h1,h2⟩:=r.wor j s e1;exact⟨w,h1,h2.move (o41 n) sm λ_ _=>rfl⟩
end
theorem HdA.eraseIdx{K:Â}{H:Hp}:∀ {ds:List D}{vs:List V} (n:Nat),HdA K H ds vs->HdA K H (ds.eraseIdx n) (vs.eraseIdx n)
 |[],_,n,h=>by rw[h.e70];exact .nil
 |d::ds,_,0,h=>by
  obtain⟨x,r,rfl,h1,h2⟩:=h.b70;exact h2
 |d::ds,_,n + 1,h=>by
  obtain⟨x,r,rfl,h1,h2⟩:=h.b70;exact .cons h1 (HdA.eraseIdx n h2)
section
variable {lm:Bool}{X:Cx}{G:Gs}{E:XK}{N:List Str}{sc:À9}{cn:List Str}{H0:Hp}{zE:Option Ç}
theorem Q01{α β:Type}{R:α->β->Prop}{a:α}{vs:List β}(h:Ã6 R [a] vs):∃ v,vs=[v]/\R a v:=by
 cases h with
 |cons h1 h2=>cases h2;exact⟨_,rfl,h1⟩
theorem d60.a60(st:d60 zA z H)(n:zA≠some a)(h:H a=some (.lst xs)):d60 zA z (upd H a o):=by
 refine⟨?_,λp hp=>Tab.upd (st.tab p hp) h⟩;have st:=st.zat;cases zA with
 |none=>cases z <;> exact st
 |some b =>
  cases z with
  |none=>exact st
  |some p =>
   have hb:b≠a:=λq=>n (by rw[q])
   exact(L2.a60 hb).trans st
theorem F81(h:ownAt ρ i=some xs):ρ[i]?=some (some (.fr xs)):=by
 unfold ownAt at h;split at h
 ·rename_i h1;cases h;exact h1
 ·cases h
theorem A31{K:Â}{zA:Option Ç}{H0 H:Hp}{s:S}{v:V}{x:D}(h:RvS K zA H0 H s v)(e:plD s=some x):Hd K (hz zA H) x v:=h.pl.d_ e
theorem u02(x:XS lm X G E N sc cn){i:Nat}{n:Str}{e:Ex}{v:Í}{p apos cpos pos:Pos}(h1:N[i]?=some n)(h2:d20 n=true)(ns:noStar v=true)(g:a70 X G E e v)(hl:(apos.endLine == cpos.line)=true) :
  PS X (.Expr (.Call (.Attribute (.Name n p) "append" apos) [v] [] cpos) pos) (tX X.K G E H0 zE (.app i e)):=by
 unfold d20 at h2;simp only[Á,ô] at h2;have ga:Good X G E (.cons e .nil) [v]:=⟨v,[],rfl,ns,g,rfl,rfl⟩;have hs:=c30 ns [] X.env;refine PS.imp (f91 (o12 PySem.F.plainAttrs_list PySem.F.slot_list_append PySem.F.type_list_append h61 (z10 (i:=i) (by rw[x.hN];exact h1) (x.vis n (ò h1)) h2.1 h2.2) (ga.args rfl).1 rfl (by rw[hs];rfl) hl hs rfl) (y30 rfl none)) λD σ H q=>?_
 obtain⟨zA,ow,ρ,z,rr,rw,st,ee,po⟩:=q;obtain⟨xs,hx,e1⟩:=M.a10 ee;have ho:=F81 hx;obtain⟨w,k1,a,ys,k2,rfl,k3,k4⟩:=rw.wor i _ ho;refine⟨_,k1,.inl ⟨rfl,ys,SqL.of k3⟩,?_⟩;have e2:M.bind (ev G.F (.cons e .nil) ρ) (λm=>M.bind (M.of (pl m)) λx=>if bare x=true/\xs.length < most then M.ret (O.nx (ρ.set i (some (.fr (xs++[x]))))) else M.no) z=some rr∨∃ c z1,ev G.F e ρ z=some (.er c z1)/\rr=.er c z1:=by
  rcases M.bind_some e1 with ⟨l,z1,e3,e4⟩ | ⟨c,z1,e3,e4⟩
  ·obtain⟨y,hy,e5⟩:=M.a10 e4;obtain⟨s,rfl,hs⟩:=e60 hy;refine .inl ?_;show M.bind (M.bind (ev G.F e ρ) λx=>M.bind (M.of (one x)) λs=>M.bind (ev G.F .nil ρ) λy=>M.ret (s::y)) _ z=some rr;simp only[M.bind,e3,M.of,one,M.ret,ev,hy];exact e5
  ·exact .inr ⟨c,z1,e3,e4⟩
 rcases e2 with e2 | ⟨c,z1,e3,rfl⟩
 ·refine e01 rw.I50 st e2 (po.ers rw) λl z1 e3 vs H1 x1 st1 rvs=>?_;obtain⟨y,hy,e5⟩:=M.a10 e3;obtain⟨s,rfl,hs⟩:=e60 hy;split at e5
  ·rename_i hb;cases e5;obtain⟨u,rfl,ru⟩:=Q01 rvs;have r1:=rw.mono x1;have k3':=x1.at k3 (rw.zne i a k2);have k4':HdA X.K (hw ow (hz zA H1)) xs ys:=k4.same (c70 x1);have hd:=I40 r1.F41 hb.1 (A31 ru hs);refine⟨a,ys,u,rfl,rfl,k3',Ù (by rw[k4.length];exact hb.2) (f50 (È _)),?_⟩
   refine po zA ow σ _ (r1.upd k2 (k4'.append (.cons hd .nil))) ?_ (a30.trans (c70 x1) (o01 k2));exact st1.a60 (rw.zne i a k2) k3'
  ·cases e5
 ·refine⟨zA,ρ,z,.er c z1,rw.I50,st,?_,po.er_ rw⟩;show M.bind (ev G.F e ρ) _ z=_;simp only[M.bind,e3]
theorem A41:x52 X (x92 X.K):=by
 intro pins s σ H x y v u Q I rx ry h;obtain⟨p,xs,i,z,rfl,rfl,hq,he,q⟩:=h;cases rx;obtain⟨t,rfl⟩:=ry;obtain⟨its,r,pl,hz⟩:=I.list hq;obtain⟨j,h1,h2,h3,h4,h5⟩:=R30 he;obtain⟨w,ew,rw'⟩:=r.get h2;have hl:=r.length;have hn:=L40;by_cases h0:0<=i
 ·have hj:i.toNat=j:=by
   rw[Û4 h0 h5] at h1;exact ý h1
  exact wpAny_getItem_list pl.isList h0 ∅ (by rw[hj];simpa using ew) ⟨z,H,I,rw',q⟩
 ·have hj:(i + (its.toArray.size:Int)).toNat=j:=by
   rw[seqIndex_neg ∅ h4] at h1
   rw[Ó,← hl];exact ý h1
  exact wpAny_getItem_list_neg pl.isList ∅ (by rw[Ó] <;> omega) ∅ (by rw[hj];simpa using ew) ⟨z,H,I,rw',q⟩
theorem e42(x:XS lm X G E N sc cn){i:Nat}{n:Str}{e ix:Ex}{v w:Í}{p tp pos:Pos}(h1:N[i]?=some n)(h2:d20 n=true)(g:a70 X G E e v)(gi:a70 X G E ix w)(hw':B10 w=true) :
  PS X (.AugAssign (.Subscript (.Name n p) w tp) .Add v pos) (tX X.K G E H0 zE (.augi i ix e)):=by
 unfold d20 at h2;simp only[Á,ô] at h2;refine PS.imp (I61 (z10 (i:=i) (by rw[x.hN];exact h1) (x.vis n (ò h1)) h2.1 h2.2) gi.pe A41 g.pe W41 set_list (by intros;cases w <;> first | rfl | (cases hw';done))) λD σ H q=>?_
 obtain⟨zA,ow,ρ,z,rr,rw,st,ee,po⟩:=q;obtain⟨xs,hx,e1⟩:=M.a10 ee;obtain⟨w',k1,a,ys,k2,rfl,k3,k4⟩:=rw.wor i _ (F81 hx);refine⟨_,k1,?_⟩;refine g90 rw.I50 st e1 (po.ers rw) λl z1 e2=>?_;obtain⟨j,hj,e3⟩:=M.a10 e2;obtain⟨dj,hj1,hj2⟩:=Ê.mp hj;obtain⟨s1,rfl,hs1⟩:=e60 hj1;refine⟨s1,rfl,λu1 H1 x1 st1 rv1=>?_⟩;have hdj:u1=.int j:=by
  have:=A31 rv1 hs1;cases o31 hj2;exact this.g70
 obtain⟨y,hy,e4⟩:=M.a10 e3;have r1:=rw.mono x1;have k3':=x1.at k3 (rw.zne i a k2);have k4a:HdA X.K (hw ow (hz zA H1)) xs ys:=k4.same (c70 x1);obtain⟨b,hb1,hb2⟩:=at_of k4a hy;refine⟨a,ys,j,b,rfl,hdj,SqL.of k3',hb1,?_⟩;refine g90 r1.I50 st1 e4 (po.ers r1) λl2 z2 e5=>?_;obtain⟨dx,hx',e6⟩:=M.a10 e5;obtain⟨s2,rfl,hs2⟩:=e60 hx';refine⟨s2,rfl,λu2 H2 x2 st2 rv2=>?_⟩;obtain⟨nv,hv,e7⟩:=M.a10 e6;obtain⟨xi,hxi,hv⟩:=Ê.mp hv;obtain⟨yi,hyi,rfl⟩:=É.mp hv;cases o31 hxi;cases o31 hyi;refine⟨yi,xi,hb2.g70,(A31 rv2 hs2).g70,?_⟩;obtain⟨xs2,hx2,e8⟩:=M.a10 e7;cases e8;unfold D90 at hx2;obtain⟨m,hm1,rfl⟩:=É.mp hx2;have r2:=r1.mono x2;have k4':HdA X.K (hw ow (hz zA H2)) xs ys:=k4.same (c70 (x1.trans x2));refine⟨a,ys,j,m,rfl,hdj,x2.at k3' (rw.zne i a k2),by rw[k4.length];exact hm1,?_⟩
 exact po zA ow σ _ (r2.upd k2 (k4'.set m Hd.int)) (st2.a60 (rw.zne i a k2) (x2.at k3' (rw.zne i a k2))) (a30.trans (c70 (x1.trans x2)) (o01 k2))
theorem e52(x:XS lm X G E N sc cn){i f:Nat}{as:Ex}{y:Str}{v:Í}{px pos:Pos}(hi:N[i]?=some y)(hl:I60 sc y=true)(g:a70 X G E (.call f as) v)(hv:O50 v=true) :
  PS X (.Assign [.Name y px] v pos) (tX X.K G E H0 zE (.newz i f as)):=by
 have L:=x.loc;refine PS.imp (g01 (i:=i) (by rw[x.hN];exact x.nd) (by rw[x.hN];exact hi) (L.lc y hl) g.pe (y30 hv _) (L.fn y hl)) λD σ H q=>?_
 obtain⟨zA,ow,ρ,z,rr,rw,st,ee,po⟩:=q;refine g90 rw.I50 st ee (po.ers rw) λl z1 e1=>?_;have e2:k81 zE.isNone ρ i l=some rr:=e1;unfold k81 at e2;split at e2
 ·split at e2
  ·rename_i m b hz';cases e2;have zn:zE=none:=by
    cases zE with
    |none=>rfl|some _=>cases hz'
   subst zn;refine⟨_,rfl,λu H1 x1 st1 rv=>?_⟩;obtain⟨a,ys,rfl,k1,k2,k3,k4⟩:=rv;obtain⟨v1,v2,rfl,h3,h4⟩:=k4.two;cases h3.g70;cases h4.bl_;obtain⟨r1,sm⟩:=rw.G02 (i:=i) x1 k1 k2 k3;exact po (some a) _ _ H1 r1 ⟨k3,st1.tab⟩ sm
  ·cases e2
 ·cases e2
theorem e62(x:XS lm X G E N sc cn){i:Nat}{n:Str}{e:Ex}{v:Í}{c:Nat}{p q tp pos:Pos}(h1:N[i]?=some n)(h2:d20 n=true)(g:a70 X G E e v) :
  PS X (.Assign [.Subscript (.Name n p) (.Constant (.int 0) c q) tp] v pos) (tX X.K G E H0 zE (.zset i e)):=by
 unfold d20 at h2;simp only[Á,ô] at h2;refine PS.imp (D01 g.pe (W01 (z10 (i:=i) (by rw[x.hN];exact h1) (x.vis n (ò h1)) h2.1 h2.2) W40 set_list (by intro u;rfl)) (show Ñ0 v (some (.Subscript (.Name n p) (.Constant (.int 0) c q) tp)) pos.line X.env=pure false from O60 rfl) (by cases v <;> rfl)) λD σ H q=>?_
 obtain⟨zA,ow,ρ,z,rr,rw,st,ee,po⟩:=q;refine g90 rw.I50 st ee (po.ers rw) λl z1 e1=>?_;obtain⟨y,hy,e2⟩:=M.a10 e1;obtain⟨dy,hy1,hy2⟩:=Ê.mp hy;obtain⟨s,rfl,hs⟩:=e60 hy1;refine⟨s,rfl,λu H1 x1 st1 rv=>?_⟩;have e3:k91 ρ y ρ[i]? z1=some rr:=e2;unfold k91 at e3;split at e3
 ·rename_i p' hsl;cases e3;have r1:=rw.mono x1;obtain⟨w,k1,k2,a,rfl,rfl⟩:=r1.wor i .z hsl;have hu:u=.int y:=by
   have:=A31 rv hs;cases dy <;> first | (cases hy2;exact this.g70) | (cases hy2;done)
  subst hu;have st':H1 a=some (.lst [.int p'.1,.bl p'.2]):=st1.zat;refine⟨_,k1,a,[.int p'.1,.bl p'.2],0,0,rfl,rfl,st',rfl,?_⟩;have x2:Ext (some a) H1 (upd H1 a (.lst [.int y,.bl p'.2])):=by
   refine⟨λb o h=>?_,λb ps h=>⟨ps,by rw[a60 (λz=>by rw[z,st'] at h;cases h)];exact h⟩⟩
   obtain⟨h3,h4⟩:=q10 h;exact c90 (by rw[a60 (λz=>h4 (by rw[z]))];exact h3) h4 (s00 h)
  exact po (some a) ow σ _ (r1.mono x2) ⟨c20,λp hp=>Tab.upd (st1.tab p hp) st'⟩ (a30.trans (c70 x1.same) (c70 x2.same))
 ·cases e3
theorem u12(x:XS lm X G E N sc cn)(g:a70 X G E c ce)(hn:∀ t a b p,ce≠.IfExp t a b p)(hb:PSs X body (tX X.K G E H0 zE b)):PS X (.While ce body [] pos) (tX X.K G E H0 zE (.whl c b)):=by
 refine PS.imp (u81 x.own (g.pt hn) hb) λD σ H q=>?_;obtain⟨zA,ow,ρ,z,rr,rw,st,ee,po⟩:=q;refine⟨λm σ H=>∃ zA ow ρ z r,RW X.K H0 zE zA ow H ρ σ/\d60 zA z H/\E01 (ev G.F c) (ex G.F zE.isNone b) m ρ z=some r/\q30 X.K G E H0 zE (hw ow (hz zA H)) D r,⟨T81,zA,ow,ρ,z,rr,rw,st,ee,po⟩,?_⟩;rintro m σ H ⟨zA,ow,ρ,z,rr,rw,st,ee,po⟩;cases m with
 |zero=>cases ee
 |succ m =>
  refine O10 rw.I50 st ee (po.ers rw) λk z1 e1 H1 x1 st1=>?_;have r1:=rw.mono x1;have sm:a30 (hw ow (hz zA H)) (hw ow (hz zA H1)):=c70 x1;cases k with
  |false =>
   cases e1;exact po zA ow σ H1 r1 st1 sm
  |true =>
   rw[if_pos rfl];have e2:M.bind (ex G.F zE.isNone b ρ) (λo=>match o with | .nx ρ=>E01 (ev G.F c) (ex G.F zE.isNone b) m ρ | .rt s=>M.ret (.rt s)) z1=some rr:=e1
   refine⟨λσ' H'=>∃ zA ow ρ z r,RW X.K H0 zE zA ow H' ρ σ'/\d60 zA z H'/\E01 (ev G.F c) (ex G.F zE.isNone b) m ρ z=some r/\q30 X.K G E H0 zE (hw ow (hz zA H')) D r,λσ' H' h=>⟨m,Ø2 m,h⟩,?_⟩;rcases M.bind_some e2 with ⟨o,z2,e3,e4⟩ | ⟨k,z2,e3,e4⟩
   ·refine⟨zA,ow,ρ,z1,_,r1,st1,e3,?_⟩;cases o with
    |nx ρ1=>exact λzA' ow' σ' H' rw' st' sm'=>⟨zA',ow',ρ1,z2,rr,rw',st',e4,po.mono (a30.trans sm sm')⟩|rt s=>cases e4;exact po
   ·subst e4;exact⟨zA,ow,ρ,z1,_,r1,st1,e3,po⟩
def u22(K:Â)(i:Nat):TI:=λσ H R=>∃ a,σ[i]?=some (some (.ref a))/\((∃ ys,SqT K H a ys)/\R (Itt K a) H∨(∃ ys,SqL K H a ys)/\R (Itl K a) H)
theorem e72(x:XI lm X G E N sc){tg:Í}{i:Nat}{n:Str}{pos:Pos}(h1:N[i]?=some n)(h2:d20 n=true):PI X tg (.Name n pos) (u22 X.K i):=by
 unfold d20 at h2;simp only[Á,ô] at h2;have hv:PE X (.Name n pos) (x22 i):=z10 (i:=i) (by rw[x.hN];exact h1) (x.vis n (ò h1)) h2.1 h2.2
 intro pins s σ H R I q;obtain⟨a,k,q | q⟩:=q
 ·exact D11 hv pins s σ H R I ⟨_,k,a,rfl,q.1,q.2⟩
 ·exact R20 hv pins s σ H R I ⟨_,k,a,rfl,q.1,q.2⟩
def fBody(F:FT)(tp:Bool)(p:Pat)(b:Sm):D->Env->M O:=λx ρ=>M.bind (M.of (d50 p x ρ)) λρ=>ex F tp b ρ
theorem B50:∀ {l:List D}{d:D},i50 l=true->d∈l->bare d=true
 |x::r,d,h,hd=>by
  simp only[i50,Á] at h;rcases ü.mp hd with rfl | hd
  ·exact h.1
  ·exact B50 h.2 hd
theorem Z40{p:Pat}{b:Sm}{J:L2.It}{xs:List D}{B:Hp}{D:Ends}{σ:L2.St}{H:Hp}{zA:Option Ç}{ow:Nat->Option Ç}{ρ:Env}{z:Z}{rr:R O}(IT:ItB X.K J xs B)
  (rw:RW X.K H0 zE zA ow H ρ σ) (st:d60 zA z H) (sm:a30 B (hw ow (hz zA H))) (ee:Q80 (fBody G.F zE.isNone p b) xs ρ z=some rr) (po:q30 X.K G E H0 zE (hw ow (hz zA H)) D rr) :
  ∃ W:Nat->Nat->L2.St->Hp->Prop,(∃ m,W 0 m σ H)/\∀ i m σ H,W i m σ H ->
   (J.stop i H/\D.nx σ H)∨(J.go i H/\∃ Nn:L2.St->Hp->Prop,(∀ σ' H',Nn σ' H'->∃ m',m' < m/\W (i + 1) m' σ' H')/\∀ x H',J.yld i H x H'->gP X.K p x σ H' λσ2 H2=>tX X.K G E H0 zE b { D with nx:=Nn,ct:=Nn,bk:=D.nx } σ2 H2):=by
 refine⟨λi m σ H=>m=xs.length - i/\i<=xs.length/\∃ zA ow ρ z r,RW X.K H0 zE zA ow H ρ σ/\d60 zA z H/\a30 B (hw ow (hz zA H))/\Q80 (fBody G.F zE.isNone p b) (xs.drop i) ρ z=some r/\q30 X.K G E H0 zE (hw ow (hz zA H)) D r,
  ⟨xs.length,by simp,Ä3 _,zA,ow,ρ,z,rr,rw,st,sm,by simpa using ee,po⟩,?_⟩
 rintro i m σ H ⟨rfl,hi,zA,ow,ρ,z,rr,rw,st,sm,ee,po⟩;have sH:a30 B H:=a30.trans sm (a30.trans i70 (a20 zA H));by_cases hlt:i < xs.length
 ·refine .inr ⟨IT.go i H sH hlt,λσ' H'=>∃ zA ow ρ z r,RW X.K H0 zE zA ow H' ρ σ'/\d60 zA z H'/\a30 B (hw ow (hz zA H'))/\Q80 (fBody G.F zE.isNone p b) (xs.drop (i + 1)) ρ z=some r/\q30 X.K G E H0 zE (hw ow (hz zA H')) D r,
   λσ' H' h=>⟨xs.length - (i + 1),by omega,rfl,hlt,h⟩,λx H' y=>?_⟩
  have hd0:xs[i]?=some xs[i]:=ø hlt;obtain⟨s1,hd⟩:=IT.yld i H x H' zA z _ (a30.trans sm i70) st y hd0;rw[Ç2 hlt] at ee;have e0:M.bind (fBody G.F zE.isNone p b xs[i] ρ) (λo=>match o with | .nx ρ=>Q80 (fBody G.F zE.isNone p b) (xs.drop (i + 1)) ρ | .rt s=>M.ret (.rt s)) z=some rr:=ee
  have r1:=rw.mono (Ext.of s1);have st1:=st.same s1;have sm1:a30 (hw ow (hz zA H)) (hw ow (hz zA H')):=c70 (i60 s1);have hd1:=hd (hw ow (hz zA H')) (a30.trans sm sm1) λ_ _ q=>n81 q r1.F41;have fin:∀ {ρ1:Env}{o:O}{z1:Z},d50 p xs[i] ρ=some ρ1->ex G.F zE.isNone b ρ1 z=some (.ok o z1)->(match o with | .nx ρ=>Q80 (fBody G.F zE.isNone p b) (xs.drop (i + 1)) ρ | .rt s=>M.ret (.rt s)) z1=some rr->gP X.K p x σ H' λσ2 H2=>tX X.K G E H0 zE b { D with nx:=λσ' H'=>∃ zA ow ρ z r,RW X.K H0 zE zA ow H' ρ σ'/\d60 zA z H'/\a30 B (hw ow (hz zA H'))/\Q80 (fBody G.F zE.isNone p b) (xs.drop (i + 1)) ρ z=some r/\q30 X.K G E H0 zE (hw ow (hz zA H')) D r,ct:=λσ' H'=>∃ zA ow ρ z r,RW X.K H0 zE zA ow H' ρ σ'/\d60 zA z H'/\a30 B (hw ow (hz zA H'))/\Q80 (fBody G.F zE.isNone p b) (xs.drop (i + 1)) ρ z=some r/\q30 X.K G E H0 zE (hw ow (hz zA H')) D r,bk:=D.nx } σ2 H2:=λ{ρ1 o z1} hbp e1 e2=>by
   refine A01 hbp r1 hd1 λow' σ' r2 sm2=>⟨zA,ow',ρ1,z,_,r2,st1,e1,?_⟩;cases o with
   |nx ρ2=>exact λzA3 ow3 σ3 H3 r3 st3 sm3=>⟨zA3,ow3,ρ2,z1,rr,r3,st3,a30.trans sm (a30.trans sm1 (a30.trans sm2 sm3)),e2,po.mono (a30.trans sm1 (a30.trans sm2 sm3))⟩|rt s=>cases e2;exact po
  rcases M.bind_some e0 with ⟨o,z1,e1,e2⟩ | ⟨c,z1,e1,e2⟩
  ·obtain⟨ρ1,hbp,e3⟩:=M.a10 e1;exact fin hbp e3 e2
  ·subst e2;obtain⟨ρ1,hbp,e3⟩:=M.a10 e1;exact A01 hbp r1 hd1 λow' σ' r2 sm2=>⟨zA,ow',ρ1,z,_,r2,st1,e3,po⟩
 ·have e:i=xs.length:=by omega
  subst e;rw[drop_length] at ee;cases ee;exact .inl ⟨IT.stop H sH,po zA ow σ H rw st (a30.refl _)⟩
theorem e82(x:XS lm X G E N sc cn){p:Pat}{i:Nat}{n:Str}{b:Sm}{tg:Í}{body:List Å6}{np pos:Pos}(hp:g30 N (I60 sc) p tg=true)(h1:N[i]?=some n)(h2:d20 n=true)(hb:PSs X body (tX X.K G E H0 zE b)) :
  PS X (.For tg (.Name n np) body [] pos) (tX X.K G E H0 zE (.fr p .seq (.cons (.var i) .nil) b)):=by
 refine PS.imp (D21 x.own x.calm (e72 x.toXI h1 h2) (m41 x.loc hp) hb (λ_=>rfl)) λD σ H q=>?_;obtain⟨zA,ow,ρ,z,rr,rw,st,ee,po⟩:=q;have e0:M.bind (M.bind (match ρ[i]? with | some (some s)=>M.ret [plS s] | _=>M.no) λx=>M.bind (M.of (one x)) λs=>M.bind (ev G.F .nil ρ) λy=>M.ret (s::y)) (λl=>M.bind (M.of ((plA l).bind (itD .seq))) λxs=>Q80 (fBody G.F zE.isNone p b) xs (k71 .seq (.cons (.var i) .nil) l ρ)) z=some rr:=ee
 cases hs:ρ[i]? with
 |none=>rw[hs] at e0;cases e0
 |some o =>
  cases o with
  |none=>rw[hs] at e0;cases e0
  |some s =>
   rw[hs] at e0;have e1:M.bind (M.of ((plA [plS s]).bind (itD .seq))) (λxs=>Q80 (fBody G.F zE.isNone p b) xs ((ρ.set i ((ρ[i]?.getD none).map plS)).map (N30 (N50 [plS s])))) z=some rr:=e0;obtain⟨xs,hx,e2⟩:=M.a10 e1;have r1:=rw.plain i;have sm:=y20 (H:=hz zA H) ow i;have hi:i < ρ.length:=(Þ.mp hs).1;have hsl:(ρ.set i ((ρ[i]?.getD none).map plS))[i]?=some (some (plS s)):=by rw[æ hi,hs];rfl
   obtain⟨w,k1,k2⟩:=r1.wor i _ hsl;obtain⟨ds,h3,h4⟩:=Ê.mp hx;obtain⟨d,rfl,h5⟩:=m91 h3;have hd:Hd X.K (hw (ow0 ow i) (hz zA H)) d w:=by
    cases s with
    |d y=>cases h5;exact k2.2
    |fr ys=>cases h5;exact k2.2
    |_=>cases h5
   obtain⟨ow',r2,sm2⟩:∃ ow',RW X.K H0 zE zA ow' H ((ρ.set i ((ρ[i]?.getD none).map plS)).map (N30 (N50 [plS s]))) σ/\a30 (hw (ow0 ow i) (hz zA H)) (hw ow' (hz zA H)):=by
    rw[N40];cases N50 [plS s] with
    |true=>exact⟨_,r1,a30.refl _⟩|false=>exact⟨_,r1.S40,B40 _⟩
   cases d with
   |tup l =>
    cases h4;obtain⟨a,ys,rfl,m1,m2⟩:=hd.x90;exact⟨a,k1,.inl ⟨⟨ys,(a20 zA H).sqT (a30.sqT i70 m1)⟩,Z40 (m61 m1 m2) r2 st sm2 e2 (po.mono (a30.trans sm sm2))⟩⟩
   |lst l =>
    cases h4;obtain⟨a,ys,rfl,m1,m2⟩:=hd.S60;exact⟨a,k1,.inr ⟨⟨ys,((m1.same i70).same (a20 zA H)).sq⟩,Z40 (Y70 m1 m2) r2 st sm2 e2 (po.mono (a30.trans sm sm2))⟩⟩
   |_=>cases h4
theorem u32(x:XS lm X G E N sc cn){p:Pat}{it:It}{src:Ex}{b:Sm}{tg iter:Í}{body:List Å6}{pos:Pos}(hp:g30 N (I60 sc) p tg=true)(hi:PI X tg iter (tIt X.K G E it src))(hns:x40 iter=true)(hv:M31 it src=none)(hb:PSs X body (tX X.K G E H0 zE b)) :
  PS X (.For tg iter body [] pos) (tX X.K G E H0 zE (.fr p it src b)):=by
 refine PS.imp (D21 x.own x.calm hi (m41 x.loc hp) hb (n61 hns X.env)) λD σ H q=>?_;obtain⟨zA,ow,ρ,z,rr,rw,st,ee,po⟩:=q;have e0:M.bind (ev G.F src ρ) (λl=>M.bind (M.of ((plA l).bind (itD it))) λxs=>Q80 (fBody G.F zE.isNone p b) xs ((N60 it src l ρ).map (N30 (N50 l)))) z=some rr:=ee;rcases M.bind_some e0 with ⟨l,z1,e1,e2⟩ | ⟨c,z1,e1,e2⟩
 ·obtain⟨xs,hx,e3⟩:=M.a10 e2;refine⟨zA,ρ,z,_,rw.I50,st,e1,xs,hx,λJ H1 x1 st1 IT=>?_⟩;have r1:=rw.mono x1;have frz:Q80 (fBody G.F zE.isNone p b) xs (S40 ρ) z1=some rr->_:=λe3=>Z40 (G:=G) (E:=E) (D:=D) (IT (λ_=>True) (hz zA H1) (a30.refl _) (λ_ _ q=>q) (λ_ _ _ q=>q) (λds hds d hd=>by cases d <;> first | trivial | exact λ_ _=>trivial) λ_ _ q _=>q) r1.S40 st1 (by rw[q20];exact a30.refl _) e3 (po.mono (a30.trans (c70 x1) (B40 ow)))
  rw[N40] at e3;have he:N60 it src l ρ=match d81 l with | true=>S40 ρ | false=>ρ:=by
   unfold N60;rw[hv] <;> cases d81 l <;> rfl
  have tt:S40 (S40 ρ)=S40 ρ:=by
   unfold S40;rw[ó];refine Ã4 λo _=>?_
   match o with
   |none=>rfl|some (.d _)=>rfl|some (.fr _)=>rfl|some .z=>rfl
  cases hl:d81 l with
  |true =>
   rw[hl] at he;rw[he] at e3;dsimp only at e3;rw[tt,ite_self] at e3;exact frz e3
  |false =>
   rw[hl] at he;rw[he] at e3;dsimp only at e3;split at e3
   ·rename_i hbb;refine Z40 (IT (λy=>bare y=true) (hw ow (hz zA H1)) i70 (λa ys q=>n81 q r1.F41) (λd v hd q=>I40 r1.F41 hd q) (λds hds d hd=>?_) λa ys q hor=>?_) r1 st1 (a30.refl _) e3 (po.mono (c70 x1))
    ·have h:=hbb;unfold N50 at h;rw[hds] at h;have:=ï.mp h d hd;cases d with
     |tup m=>exact λy hy=>B50 this hy|lst m=>exact λy hy=>B50 this hy|_=>trivial
    ·rcases hor with ⟨hn,hm1⟩ | hm
     ·refine o70.of (h00 (c90 hm1 (st.l01 hn)) λj w=>?_);obtain⟨zs,k⟩:=rw.lst j a w;rw[hn] at k;cases k
     ·rw[hl] at hm;cases hm
   ·exact frz e3
 ·subst e2;exact⟨zA,ρ,z,_,rw.I50,st,e1,po.er_ rw⟩
end
def isQ:Sm->Bool
 |.nil=>true|.seq _ _=>true|_=>false
def Q11:Í->Bool
 |.IfExp ..=>false|_=>true
def G12:Í->Bool
 |.SetComp ..=>false|.DictComp ..=>false|_=>true
def mtI(lm:Bool)(fns:List (Str × List Str))(nums:List (Str × Int))(it:It)(src:Ex)(sc:À9)(N:List Str)(tg iter:Í):Bool:=match it with
 |.seq=>mt lm fns nums src sc N [iter]|.rng1=>opt (U01 iter) λr=>r.1.1 == ("range":Str)&&glob sc r.1.1&&mt lm fns nums src sc N [r.1.2.2.1]|.rng2=>opt (U11 iter) λr=>r.1.1 == ("range":Str)&&glob sc r.1.1&&mt lm fns nums src sc N [r.1.2.2.1,r.1.2.2.2.1]|.zip=>opt (U11 iter) λr=>r.1.1 == ("zip":Str)&&glob sc r.1.1&&j40 tg&&mt lm fns nums src sc N [r.1.2.2.1,r.1.2.2.2.1]|.enum=>opt (U01 iter) λr=>r.1.1 == ("enumerate":Str)&&glob sc r.1.1&&j40 tg&&mt lm fns nums src sc N [r.1.2.2.1]
def G22:(p:Pat)->Option {q:Nat × Nat // p=.tup (.cons (.v q.1) (.cons (.v q.2) .nil))}
 |.tup (.cons (.v i) (.cons (.v j) .nil))=>some ⟨(i,j),rfl⟩|_=>none
def G32:(e:Ex)->Option {q:Ex × Ex // e=.tup (.cons q.1 (.cons q.2 .nil))}
 |.tup (.cons a (.cons b .nil))=>some ⟨(a,b),rfl⟩|_=>none
def G42:(e:Í)->Option {q:Í × Í × Nat × Pos // e=.Tuple [q.1,q.2.1] q.2.2.1 q.2.2.2}
 |.Tuple [a,b] k p=>some ⟨(a,b,k,p),rfl⟩|_=>none
def G52(sc:À9)(p:Pat)(e:Ex)(tg v:Í):Bool:=opt (G22 p) λ_=>opt (G32 e) λ_=>opt (z12 tg) λt=>opt (G42 v) λu =>
  !(t.1.1 == t.1.2.2.1)&&sc.names.lookup t.1.1 == some .local&&sc.names.lookup t.1.2.2.1 == some .local&&t.1.2.2.2.1.line == t.1.2.1.line&&noStar u.1.1&&noStar u.1.2.1&&!([u.1.1,u.1.2.1].all (Ë1 8))&&!([u.1.1,u.1.2.1].all (Ô4 8))
def u42:(p:Pat)->Option {q:Nat × Nat × Nat // p=.tup (.cons (.v q.1) (.cons (.v q.2.1) (.cons (.v q.2.2) .nil)))}
 |.tup (.cons (.v i) (.cons (.v j) (.cons (.v k) .nil)))=>some ⟨(i,j,k),rfl⟩|_=>none
def u52:(e:Ex)->Option {q:Ex × Ex × Ex // e=.tup (.cons q.1 (.cons q.2.1 (.cons q.2.2 .nil)))}
 |.tup (.cons a (.cons b (.cons c .nil)))=>some ⟨(a,b,c),rfl⟩|_=>none
def G62:(e:Í)->Option {q:Í × Í × Í × Nat × Pos // e=.Tuple [q.1,q.2.1,q.2.2.1] q.2.2.2.1 q.2.2.2.2}
 |.Tuple [a,b,c] k p=>some ⟨(a,b,c,k,p),rfl⟩|_=>none
def G72:(e:Í)->Option {q:Str × Pos × Str × Pos × Str × Pos × Nat × Pos // e=.Tuple [.Name q.1 q.2.1,.Name q.2.2.1 q.2.2.2.1,.Name q.2.2.2.2.1 q.2.2.2.2.2.1] q.2.2.2.2.2.2.1 q.2.2.2.2.2.2.2}
 |.Tuple [.Name a p,.Name b q,.Name c r] k t=>some ⟨(a,p,b,q,c,r,k,t),rfl⟩|_=>none
def u62(sc:À9)(p:Pat)(e:Ex)(tg v:Í):Bool:=opt (u42 p) λ_=>opt (u52 e) λ_=>opt (G72 tg) λt=>opt (G62 v) λu =>
  !(t.1.1 == t.1.2.2.1)&&!(t.1.1 == t.1.2.2.2.2.1)&&!(t.1.2.2.1 == t.1.2.2.2.2.1)&&sc.names.lookup t.1.1 == some .local&&sc.names.lookup t.1.2.2.1 == some .local&&sc.names.lookup t.1.2.2.2.2.1 == some .local&&t.1.2.2.2.1.line == t.1.2.1.line&&t.1.2.2.2.2.2.1.line == t.1.2.1.line&&noStar u.1.1&&noStar u.1.2.1&&noStar u.1.2.2.1&&!([u.1.1,u.1.2.1,u.1.2.2.1].all (Ë1 8))&&!([u.1.1,u.1.2.1,u.1.2.2.1].all (Ô4 8))
def isNm:Í->Bool
 |.Name ..=>true|_=>false
def dkB(_:À9)(_ _:Í):Bool:=false
def setB(sc:À9)(p:Pat)(e:Ex)(tg v:Í):Bool :=
 if isNm tg then(G12 v || dkB sc tg v) else if j40 tg then(if j40 v then(match v with | .Tuple vs _ _=>vs.all (Ë1 8) | _=>false) || (match tg with | .Tuple ts _ _=>ts.any (o11 λy=>sc.names.lookup y) | _=>false) || G52 sc p e tg v || u62 sc p e tg v else true) else false
def Q21:(e:List Å6)->Option {q:Í × Í × Pos // e=[.Assign [q.1] q.2.1 q.2.2]}
 |[.Assign [tg] v p]=>some ⟨(tg,v,p),rfl⟩|_=>none
def u72:(e:List Å6)->Option {q:Option Í × Pos // e=[.Return q.1 q.2]}
 |[.Return v p]=>some ⟨(v,p),rfl⟩|_=>none
def G82:(e:List Å6)->Option {q:Í × List Å6 × List Å6 × Pos // e=[.If q.1 q.2.1 q.2.2.1 q.2.2.2]}
 |[.If c a b p]=>some ⟨(c,a,b,p),rfl⟩|_=>none
def u82:(e:List Å6)->Option {q:Í × Í × List Å6 × Pos // e=[.For q.1 q.2.1 q.2.2.1 [] q.2.2.2]}
 |[.For tg iter body [] p]=>some ⟨(tg,iter,body,p),rfl⟩|_=>none
def u92:(e:List Å6)->Option {q:Í × List Å6 × Pos // e=[.While q.1 q.2.1 [] q.2.2]}
 |[.While c body [] p]=>some ⟨(c,body,p),rfl⟩|_=>none
def e92:(e:List Å6)->Option {q:Í × Pos // e=[.Raise (some q.1) none q.2]}
 |[.Raise (some x) none p]=>some ⟨(x,p),rfl⟩|_=>none
def f02:(e:List Å6)->Option {q:Í × Pos // e=[.Expr q.1 q.2]}
 |[.Expr v p]=>some ⟨(v,p),rfl⟩|_=>none
def v02:(e:Í)->Option {q:Str × Pos × Str × Nat × Pos × Pos // e=.Call (.Name q.1 q.2.1) [.Constant (.str q.2.2.1) q.2.2.2.1 q.2.2.2.2.1] [] q.2.2.2.2.2}
 |.Call (.Name n p1) [.Constant (.str y) k p2] [] p3=>some ⟨(n,p1,y,k,p2,p3),rfl⟩|_=>none
def v12:(e:Í)->Option {q:Str × Pos × Str × Pos × Í × Pos // e=.Call (.Attribute (.Name q.1 q.2.1) q.2.2.1 q.2.2.2.1) [q.2.2.2.2.1] [] q.2.2.2.2.2}
 |.Call (.Attribute (.Name n p) a ap) [v] [] cp=>some ⟨(n,p,a,ap,v,cp),rfl⟩|_=>none
def G92:(e:Í)->Option {q:Str × Pos × Nat × Pos × Pos // e=.Subscript (.Name q.1 q.2.1) (.Constant (.int 0) q.2.2.1 q.2.2.2.1) q.2.2.2.2}
 |.Subscript (.Name n p) (.Constant (.int 0) c q1) tp=>some ⟨(n,p,c,q1,tp),rfl⟩|_=>none
def H02:(e:Í)->Option {q:Str × Pos × Í × Pos // e=.Subscript (.Name q.1 q.2.1) q.2.2.1 q.2.2.2}
 |.Subscript (.Name n p) w tp=>some ⟨(n,p,w,tp),rfl⟩|_=>none
def H12:(e:Í)->Option {q:Str × Pos // e=.Name q.1 q.2}
 |.Name n p=>some ⟨(n,p),rfl⟩|_=>none
def v22:(e:List Å6)->Option {q:Str × Pos × Ë6 × Í × Pos // e=[.AugAssign (.Name q.1 q.2.1) q.2.2.1 q.2.2.2.1 q.2.2.2.2]}
 |[.AugAssign (.Name n p) op v pos]=>some ⟨(n,p,op,v,pos),rfl⟩|_=>none
def f12:(e:List Å6)->Option {q:Str × Pos × Í × Pos × Í × Pos // e=[.AugAssign (.Subscript (.Name q.1 q.2.1) q.2.2.1 q.2.2.2.1) .Add q.2.2.2.2.1 q.2.2.2.2.2]}
 |[.AugAssign (.Subscript (.Name n p) w tp) .Add v pos]=>some ⟨(n,p,w,tp,v,pos),rfl⟩|_=>none
def A51:Ex->Bool
 |.con .non=>true|_=>false
def mtS(lm:Bool)(fns:List (Str × List Str))(nums:List (Str × Int))(cn:List Str)(sc:À9)(N:List Str):Sm->List Å6->Bool
 |.nil,ss=>ss.isEmpty|.seq s r,ss=>opt ss.head? λst=>!isQ s&&isQ r&&mtS lm fns nums cn sc N s [st]&&mtS lm fns nums cn sc N r ss.tail|.set p e,ss=>opt (Q21 ss) λq=>!isL e&&g30 N (I60 sc) p q.1.1&&mt lm fns nums e sc N [q.1.2.1]&&setB sc p e q.1.1 q.1.2.1
 |.ret e,ss=>opt (u72 ss) λq=>match q.1.1 with
  |some v=>!isL e&&mt lm fns nums e sc N [v]|none=>A51 e
 |.iff c t u,ss=>opt (G82 ss) λq=>!isL c&&Q11 q.1.1&&isQ t&&isQ u&&mt lm fns nums c sc N [q.1.1]&&mtS lm fns nums cn sc N t q.1.2.1&&mtS lm fns nums cn sc N u q.1.2.2.1|.fr p it src b,ss=>opt (u82 ss) λq=>g30 N (I60 sc) p q.1.1&&isL src&&x40 q.1.2.1&&isQ b&&mtI lm fns nums it src sc N q.1.1 q.1.2.1&&mtS lm fns nums cn sc N b q.1.2.2.1|.whl c b,ss=>opt (u92 ss) λq=>!isL c&&Q11 q.1.1&&isQ b&&mt lm fns nums c sc N [q.1.1]&&mtS lm fns nums cn sc N b q.1.2.1|.rais c,ss=>opt (e92 ss) λq=>opt (v02 q.1.1) λr=>cn[c]? == some r.1.1&&glob sc r.1.1|.exp e,ss=>opt (f02 ss) λq=>O50 q.1.1&&!isL e&&mt lm fns nums e sc N [q.1.1]|.app i e,ss=>opt (f02 ss) λq=>opt (v12 q.1.1) λr=>r.1.2.2.1 == ("append":Str)&&N[i]? == some r.1.1&&d20 r.1.1&&noStar r.1.2.2.2.2.1&&!isL e&&r.1.2.2.2.1.endLine == r.1.2.2.2.2.2.line&&mt lm fns nums e sc N [r.1.2.2.2.2.1]|.newz i f as,ss=>opt (Q21 ss) λq=>opt (H12 q.1.1) λr=>N[i]? == some r.1.1&&I60 sc r.1.1&&O50 q.1.2.1&&mt lm fns nums (.call f as) sc N [q.1.2.1]|.zset i e,ss=>opt (Q21 ss) λq=>opt (G92 q.1.1) λr=>N[i]? == some r.1.1&&d20 r.1.1&&!isL e&&mt lm fns nums e sc N [q.1.2.1]|.augi i ix e,ss=>opt (f12 ss) λq=>N[i]? == some q.1.1&&d20 q.1.1&&B10 q.1.2.2.1&&!isL e&&!isL ix&&mt lm fns nums e sc N [q.1.2.2.2.2.1]&&mt lm fns nums ix sc N [q.1.2.2.1]|.aug o i e,ss=>opt (v22 ss) λq=>N[i]? == some q.1.1&&I60 sc q.1.1&&k82 o q.1.2.2.1&&!isL e&&mt lm fns nums e sc N [q.1.2.2.2.1]
section
variable {lm:Bool}{X:Cx}{G:Gs}{E:XK}{N:List Str}{sc:À9}{cn:List Str}{H0:Hp}{zE:Option Ç}
theorem v32(x:XI lm X G E N sc){it:It}{src:Ex}{tg iter:Í}(hL:isL src=true)(h:mtI lm G.fns G.nums it src sc N tg iter=true):PI X tg iter (tIt X.K G E it src):=by
 cases it with
 |seq =>
  obtain⟨a,rfl,ga⟩:=n71 hL (sound G src x h);exact F31 ga
 |rng1 =>
  obtain⟨⟨⟨n,_,a,_⟩,rfl⟩,-,h⟩:=a40 h;simp only[Á,beq_iff_eq] at h;exact n01 x h.1.1 h.1.2 hL (sound G src x h.2)
 |rng2 =>
  obtain⟨⟨⟨n,_,a,b,_⟩,rfl⟩,-,h⟩:=a40 h;simp only[Á,beq_iff_eq] at h;exact n11 x h.1.1 h.1.2 hL (sound G src x h.2)
 |zip =>
  obtain⟨⟨⟨n,_,a,b,_⟩,rfl⟩,-,h⟩:=a40 h;simp only[Á,beq_iff_eq] at h;exact n41 x h.1.2 h.1.1.1 h.1.1.2 hL (sound G src x h.2)
 |enum =>
  obtain⟨⟨⟨n,_,a,_⟩,rfl⟩,-,h⟩:=a40 h;simp only[Á,beq_iff_eq] at h;exact Z00 x h.1.2 h.1.1.1 h.1.1.2 hL (sound G src x h.2)
theorem Z50(h:Q11 e=true):∀ t a b p,e≠.IfExp t a b p:=by
 intro t a b p he;subst he;cases h
def GS(X:Cx)(G:Gs)(E:XK)(H0:Hp)(zE:Option Ç)(s:Sm)(ss:List Å6):Prop:=(isQ s=true->PSs X ss (tX X.K G E H0 zE s))/\(isQ s=false->∃ st,ss=[st]/\PS X st (tX X.K G E H0 zE s))
theorem l50{s:Sm}{st:Å6}(hq:isQ s=false)(h:PS X st (tX X.K G E H0 zE s)):GS X G E H0 zE s [st]:=⟨λk=>(by rw[hq] at k;cases k),λ_=>⟨st,rfl,h⟩⟩
theorem Q31{x:XI lm X G E N sc}{e:Ex}{elt:Í}{gs:List Comprehension}{csc:À9}{q:Pos}(h:mt lm G.fns G.nums e sc N [.ListComp elt gs csc q]=true)(hL:isL e=false):∃ tg iter ifs,gs=[⟨tg,iter,ifs,0⟩]/\E30 X G E e elt tg iter ifs csc:=by
 cases e with
 |comp own capt p it src cond el =>
  match gs,h with
  |[⟨tg,iter,ifs,0⟩],h=>exact⟨tg,iter,ifs,rfl,O40 (λx _=>sound G src x) (λx _=>sound G cond x) (λx _=>sound G el x) x h⟩
 |nil=>cases hL
 |cons _ _=>cases hL
 |bf f as=>cases f <;> cases h
 |_=>cases h
theorem Q41(h:isNm e=true):∃ y p,e=.Name y p:=by
 cases e <;> first | exact⟨_,_,rfl⟩ | cases h
theorem s60(h:j40 e=true):∃ ts k p,e=.Tuple ts k p:=by
 cases e <;> first | exact⟨_,_,_,rfl⟩ | cases h
theorem v42(x:XS lm X G E N sc cn){p:Pat}{e:Ex}{tg v:Í}{pos:Pos}(h1:(!isL e)=true)(h2:g30 N (I60 sc) p tg=true)(h3:mt lm G.fns G.nums e sc N [v]=true)(h4:setB sc p e tg v=true):PS X (.Assign [tg] v pos) (tX X.K G E H0 zE (.set p e)):=by
 have g:=a50 (b30 h1) (sound G e x.toXI h3);unfold setB at h4;split at h4
 ·rename_i hn;obtain⟨y,px,rfl⟩:=Q41 hn;cases p with
  |v i =>
   unfold g30 at h2;rw[Á,beq_iff_eq] at h2;refine t42 x h2.1 h2.2 g (λelt gs csc q hv=>?_) (λa b c d hv=>?_) (λa b c d f hv=>?_)
   ·subst hv;exact Q31 (x:=x.toXI) h3 (b30 h1)
   ·subst hv;cases h4
   ·subst hv;cases h4
  |tup _=>unfold g30 at h2;cases h2
  |nil=>unfold g30 at h2;cases h2
  |cons _ _=>unfold g30 at h2;cases h2
 ·split at h4
  ·rename_i ht;split at h4
   ·rename_i hv;rw[Ã3] at h4;rcases h4 with h4 | h4
    rotate_left
    ·clear g h1 ht hv;obtain⟨⟨⟨i,j,l⟩,rfl⟩,-,h4⟩:=a40 h4;obtain⟨⟨⟨ea,eb,ec⟩,rfl⟩,-,h4⟩:=a40 h4;obtain⟨⟨⟨y,px,w,py,u,pu,kt,tp⟩,rfl⟩,-,h4⟩:=a40 h4;obtain⟨⟨⟨a,b,c,kv,vp⟩,rfl⟩,-,h4⟩:=a40 h4;simp only[Á,ô,beq_iff_eq] at h4;obtain⟨⟨⟨⟨⟨⟨⟨⟨⟨⟨⟨⟨k1,k2⟩,k3⟩,k4⟩,k5⟩,k6⟩,k7⟩,k8⟩,k9⟩,k10⟩,k11⟩,k12⟩,k13⟩:=h4;unfold g30 at h2;simp only[Y10,g30,Á,beq_iff_eq] at h2;obtain⟨⟨_,h21,_⟩,⟨_,h22,_⟩,⟨_,h23,_⟩,_⟩:=h2;have h3':(isL (.cons ea (.cons eb (.cons ec .nil)))&&mt lm G.fns G.nums (.cons ea (.cons eb (.cons ec .nil))) sc N [a,b,c])=true:=h3;rw[Á] at h3';have ga:Good X G E (.cons ea (.cons eb (.cons ec .nil))) [a,b,c]:=sound G (.cons ea (.cons eb (.cons ec .nil))) x.toXI h3'.2;have kd:∀ {n:Str},sc.names.lookup n=some .local->X.env.kindOf n=some .local:=λh=>by unfold Env.kindOf;rw[x.sco];exact h
     exact e12 x h21 h22 h23 (by simpa using k1) (by simpa using k2) (by simpa using k3) k4 k5 k6 ga (P51 x.bk (kd k4) (kd k5) (kd k6) (by simpa using k1) (by simpa using k2) (by simpa using k3) k7 k8 k9 k10 k11 k12 k13)
    rw[Ã3,Ã3] at h4;rcases h4 with (h4 | h4) | h4
    ·obtain⟨ts,k,tp,rfl⟩:=s60 ht;obtain⟨vs,k',vp,rfl⟩:=s60 hv;exact o21 x h2 g rfl (P21 h4)
    ·obtain⟨ts,k,tp,rfl⟩:=s60 ht;obtain⟨vs,k',vp,rfl⟩:=s60 hv;refine o21 x h2 g rfl (P31 ?_);have e:X.env.kindOf=λy=>sc.names.lookup y:=by funext y;unfold Env.kindOf;rw[x.sco]
     rw[e];exact h4
    ·clear g h1 ht hv;obtain⟨⟨⟨i,j⟩,rfl⟩,-,h4⟩:=a40 h4;obtain⟨⟨⟨ea,eb⟩,rfl⟩,-,h4⟩:=a40 h4;obtain⟨⟨⟨y,px,w,py,kt,tp⟩,rfl⟩,-,h4⟩:=a40 h4;obtain⟨⟨⟨a,b,kv,vp⟩,rfl⟩,-,h4⟩:=a40 h4;simp only[Á,ô,beq_iff_eq] at h4;obtain⟨⟨⟨⟨⟨⟨⟨k1,k2⟩,k3⟩,k4⟩,k5⟩,k6⟩,k7⟩,k8⟩:=h4;unfold g30 at h2;simp only[Y10,g30,Á,beq_iff_eq] at h2;obtain⟨⟨_,h21,_⟩,⟨_,h22,_⟩,_⟩:=h2;have h3':(isL (.cons ea (.cons eb .nil))&&mt lm G.fns G.nums (.cons ea (.cons eb .nil)) sc N [a,b])=true:=h3;rw[Á] at h3';have ga:Good X G E (.cons ea (.cons eb .nil)) [a,b]:=sound G (.cons ea (.cons eb .nil)) x.toXI h3'.2;refine t52 x h21 h22 (by simpa using k1) k2 k3 ga (e02 x.bk ?_ ?_ (by simpa using k1) (by rw[k4];exact beq_self_eq_true _) k5 k6 k7 k8)
     ·unfold Env.kindOf;rw[x.sco];exact k2
     ·unfold Env.kindOf;rw[x.sco];exact k3
   ·rename_i hv;exact o21 x h2 g ht (P11 (by simpa using hv))
  ·cases h4
theorem o51(h:A51 e=true):e=.con .non:=by
 unfold A51 at h;split at h
 ·rfl
 ·cases h
theorem v52(x:XS lm X G E N sc cn)(h:(match o with | some v=>!isL e&&mt lm G.fns G.nums e sc N [v] | none=>A51 e)=true):PS X (.Return o pos) (tX X.K G E H0 zE (.ret e)):=by
 cases o with
 |some v =>
  have h:(!isL e&&mt lm G.fns G.nums e sc N [v])=true:=h;rw[Á] at h;by_cases hv:∃ i,e=.var i
  ·obtain⟨i,rfl⟩:=hv;have h2:=h.2;cases v with
   |Name n p =>
    have h2:(N[i]? == some n&&d20 n)=true:=h2;rw[Á,beq_iff_eq] at h2;exact e22 x h2.1 h2.2
   |_=>cases h2
  ·exact t72 (λi hi=>hv ⟨i,hi⟩) (a50 (b30 h.1) (sound G e x.toXI h.2))
 |none =>
  have he:=o51 h;subst he;refine PS.imp I31 λD σ H q=>?_;obtain⟨zA,ow,ρ,z,rr,rw,st,ee,po⟩:=q;cases ee;exact po .non H (λk=>nomatch k) rw.ext (U21 rw.zok st) (show Hd X.K (hz zE H) .non .non from Hd.non)
theorem H22(x:XS lm X G E N sc cn){p:Pat}{it:It}{src:Ex}{b:Sm}{tg iter:Í}{body:List Å6}{pos:Pos}(h1:g30 N (I60 sc) p tg=true)(h2:isL src=true)(h3:x40 iter=true)(h5:mtI lm G.fns G.nums it src sc N tg iter=true)(hb:PSs X body (tX X.K G E H0 zE b)) :
  PS X (.For tg iter body [] pos) (tX X.K G E H0 zE (.fr p it src b)):=by
 cases hv:M31 it src with
 |some q =>
  obtain⟨i,rfl,rfl⟩:=q;have h5':(noStar iter&&!isL (.var i)&&isL .nil&&mt lm G.fns G.nums (.var i) sc N [iter]&&mt lm G.fns G.nums .nil sc N [])=true:=h5;simp only[Á] at h5';have h7:=h5'.1.2;cases iter with
  |Name n np =>
   have h7:(N[i]? == some n&&d20 n)=true:=h7;rw[Á,beq_iff_eq] at h7;exact e82 x h1 h7.1 h7.2 hb
  |_=>cases h7
 |none=>exact u32 x h1 (v32 x.toXI h2 h5) h3 hv hb
theorem f22(x:XS lm X G E N sc cn):∀ (s:Sm) {ss:List Å6},mtS lm G.fns G.nums cn sc N s ss=true->GS X G E H0 zE s ss:=by
 intro s
 induction s with
 |nil =>
  intro ss h;have:ss=[]:=Î6.mp h;subst this;exact⟨λ_=>t22,λk=>by cases k⟩
 |seq s r ihs ihr =>
  intro ss h;obtain⟨st,h0,h⟩:=a40 h;cases ss with
  |nil=>cases h0
  |cons st' rest =>
   cases h0;simp only[Á,ô,List.tail_cons] at h;obtain⟨⟨⟨h1,h2⟩,h3⟩,h4⟩:=h;obtain⟨st',he,hs⟩:=(ihs h3).2 h1;cases he;exact⟨λ_=>t32 hs ((ihr h4).1 h2),λk=>by cases k⟩
 |set p e =>
  intro ss h;obtain⟨⟨q,rfl⟩,-,h⟩:=a40 h;simp only[Á] at h;exact l50 rfl (v42 x h.1.1.1 h.1.1.2 h.1.2 h.2)
 |ret e =>
  intro ss h;obtain⟨⟨q,rfl⟩,-,h⟩:=a40 h;exact l50 rfl (v52 x h)
 |iff c t u iht ihu =>
  intro ss h;obtain⟨⟨q,rfl⟩,-,h⟩:=a40 h;simp only[Á] at h;obtain⟨⟨⟨⟨⟨⟨h1,h2⟩,h3⟩,h4⟩,h5⟩,h6⟩,h7⟩:=h;exact l50 rfl (F92 (a50 (b30 h1) (sound G c x.toXI h5)) (Z50 h2) ((iht h6).1 h3) ((ihu h7).1 h4))
 |fr p it src b ih =>
  intro ss h;obtain⟨⟨q,rfl⟩,-,h⟩:=a40 h;simp only[Á] at h;obtain⟨⟨⟨⟨⟨h1,h2⟩,h3⟩,h4⟩,h5⟩,h6⟩:=h;exact l50 rfl (H22 x h1 h2 h3 h5 ((ih h6).1 h4))
 |whl c b ih =>
  intro ss h;obtain⟨⟨q,rfl⟩,-,h⟩:=a40 h;simp only[Á] at h;obtain⟨⟨⟨⟨h1,h2⟩,h3⟩,h4⟩,h5⟩:=h;exact l50 rfl (u12 x (a50 (b30 h1) (sound G c x.toXI h4)) (Z50 h2) ((ih h5).1 h3))
 |rais c =>
  intro ss h;obtain⟨⟨⟨e,pos⟩,rfl⟩,-,h⟩:=a40 h;dsimp only at h;obtain⟨⟨⟨n,p1,y,k,p2,p3⟩,rfl⟩,-,h⟩:=a40 h;simp only[Á,beq_iff_eq] at h;exact l50 rfl (x_raise x h.1 h.2)
 |exp e =>
  intro ss h;obtain⟨⟨q,rfl⟩,-,h⟩:=a40 h;simp only[Á] at h;exact l50 rfl (t82 (a50 (b30 h.1.2) (sound G e x.toXI h.2)) h.1.1)
 |app i e =>
  intro ss h;obtain⟨⟨⟨v0,pos⟩,rfl⟩,-,h⟩:=a40 h;dsimp only at h;obtain⟨⟨⟨n,p1,a,apos,v,cpos⟩,rfl⟩,-,h⟩:=a40 h;simp only[Á,beq_iff_eq] at h;obtain⟨⟨⟨⟨⟨⟨h7,h8⟩,h2⟩,h3⟩,h4⟩,h5⟩,h6⟩:=h;subst h7;exact l50 rfl (u02 x h8 h2 h3 (a50 (b30 h4) (sound G e x.toXI h6)) (by rw[h5];exact beq_self_eq_true _))
 |newz i f as =>
  intro ss h;obtain⟨⟨⟨tg,v,pos⟩,rfl⟩,-,h⟩:=a40 h;dsimp only at h;obtain⟨⟨⟨y,p1⟩,rfl⟩,-,h⟩:=a40 h;simp only[Á,beq_iff_eq] at h;obtain⟨⟨⟨h1,h2⟩,h3⟩,h4⟩:=h;exact l50 rfl (e52 x h1 h2 (a50 rfl (sound G (.call f as) x.toXI h4)) h3)
 |zset i e =>
  intro ss h;obtain⟨⟨⟨tg,v,pos⟩,rfl⟩,-,h⟩:=a40 h;dsimp only at h;obtain⟨⟨⟨n,p1,c,p2,p3⟩,rfl⟩,-,h⟩:=a40 h;simp only[Á,beq_iff_eq] at h;exact l50 rfl (e62 x h.1.1.1 h.1.1.2 (a50 (b30 h.1.2) (sound G e x.toXI h.2)))
 |augi i ix e =>
  intro ss h;obtain⟨⟨⟨n,p1,w,tp,v,pos⟩,rfl⟩,-,h⟩:=a40 h;simp only[Á,beq_iff_eq] at h;obtain⟨⟨⟨⟨⟨⟨h1,h2⟩,h3⟩,h4⟩,h5⟩,h6⟩,h7⟩:=h;exact l50 rfl (e42 x h1 h2 (a50 (b30 h4) (sound G e x.toXI h6)) (a50 (b30 h5) (sound G ix x.toXI h7)) h3)
 |aug o i e =>
  intro ss h;obtain⟨⟨⟨y,p1,op,v,pos⟩,rfl⟩,-,h⟩:=a40 h;simp only[Á,beq_iff_eq] at h;exact l50 rfl (t92 x h.1.1.1.1 h.1.1.1.2 h.1.1.2 (a50 (b30 h.1.2) (sound G e x.toXI h.2)))
end
structure GX(P:Program)(w:World)(K:PySem.W.Frag)(mg:Str->Option Value)(base:Heap)(G:Gs)(cn:List Str):Prop where
 gok:∀ f nm ps,G.fns[f]?=some (nm,ps)->∃ fa fd,mg nm=some (.ref fa)/\PySem.W.keepIn K (.ref fa)=true/\Binds K fd ps []/\c51 P w K mg base (CX1 P w) G.lv fa fd ps (spF K G f ps.length)
 num:∀ p∈G.nums,∃ t,mg p.1=some (.int p.2 t)
 blt:∀ n∈O31,mg n=none
 cls:∀ c x,cn[c]?=some x->mg x=some (.ref (G.cls c))/\PySem.W.excIn K (G.cls c) [.type "ValueError",.type "Exception",.type "BaseException",.type "object"] "ValueError.__new__"=true
section
variable {P:à}{w:ö}{K:Â}{mg:Str->Option Ã}{base:í}{G:Gs}{cn:List Str}
theorem f32(g:GX P w K mg base G cn){lm:Bool}{N ps:List Str}{qual:Str}{sc:À9}{f:Ç}{fd:È5}{cd:Ã}{A:þ}{outer:List Å9}{s:Å}{H:Hp}{E:XK}(S:p50 N ps sc)(hl:N.all (I60 sc)=true)
  (hr:Q50 G.lv (A.deeper (Ô3 qual sc s.heap.objs.size f cd))) (hc:fd.code=cd):XS lm (M10 (CX1 P w) P w K mg base N qual sc f cd A outer s H E) G E N sc cn where
 gok:=g.gok
 num:=g.num
 blt:=g.blt
 hN:=rfl
 nd:=S.nd
 vis:=λx hx=>by
  have:=ï.mp hl x hx;unfold I60 at this;rw[Ã3,beq_iff_eq,beq_iff_eq] at this;rcases this with h | h
  ·exact .inl h
  ·exact .inr (.inl h)
 glb:=λx h=>h
 cel:=λx h=>h
 calm:=rfl
 room:=hr
 pas:=p32
 sco:=rfl
 fnk:=S.kind
 own:=PassesOwn.leaving
 can:=k21
 fnx:=λ_=>rfl
 cls:=g.cls
theorem H32{x qual:Str}{st:Å6}{f:Ç}{fd:È5}{N ps:List Str}{k:Nat}{sp:Sp}(F:Fun K x qual st f fd)(S:p50 N ps (c00 st))(len:∀ vs H Q E,sp vs H Q E->vs.length=ps.length)
  (hb:∀ (cdv:Ã),fd.code=cdv->∀ (A:þ) (outer:List Å9) (s:Å) (H:Hp) (vs:List V) (Q:VK) (E:XK),Q50 k (A.deeper (Ô3 qual (c00 st) s.heap.objs.size f cdv))->sp vs H Q E ->
   ∃ t,PSs (M10 (CX1 P w) P w K mg base N qual (c00 st) f cdv A outer s H E) (m00 st) t/\t { nx:=λ_ H'=>Q .non H',rt:=Q } (L2.start N vs) H):c51 P w K mg base (CX1 P w) (k + 1) f fd ps sp:=by
 obtain⟨oc,od,kV,doc,pm,an,cdv,ct,osl,rfl,lk,hcd⟩:=F.ex;exact n82 lk hcd S len λA outer s H vs Q E hr hsp=>hb cdv rfl A outer s H vs Q E hr hsp
theorem Z60:∀ {ss:List S}{vs:List V}{i:Nat}{s:S}{n:Nat},RvA K zA H ss vs->(ss.map some++Õ n none)[i]?=some (some s)->∃ v,(vs.map some++Õ n none)[i]?=some (some v)/\RvP K zA H s v
 |[],_,i,s,n,h,e=>by
  cases h;simp only[map_nil,Ì8] at e;rw[È4] at e;split at e <;> cases e
 |a::ss,_,0,s,n,h,e=>by
  cases h with
  |cons h1 h2 =>
   simp only[Ç9,List.cons_append,Ü0] at e;cases e;exact⟨_,rfl,h1⟩
 |a::ss,_,i + 1,s,n,h,e=>by
  cases h with
  |cons h1 h2 =>
   obtain⟨v,k1,k2⟩:=Z60 (i:=i) (s:=s) (n:=n) h2 (by simpa using e)
   exact⟨v,by simpa using k1,k2⟩
theorem Ã6.len{α β:Type}{R:α->β->Prop}:∀ {l:List α}{m:List β},Ã6 R l m->l.length=m.length
 |[],_,h=>by cases h;rfl
 |_::_,_,h=>by
  cases h with
  |cons h1 h2=>simp[Ã6.len h2]
theorem A61(h:RvA K zA H ss vs)(hn:∀ s∈ss,∀ xs,s≠.fr xs):RW K H zA zA (λ_=>none) H (Q.start N.length ss) (L2.start N vs):=by
 have hl:ss.length=vs.length:=Ã6.len h;refine⟨?_,λi j a e=>(nomatch e),λi a e=>(nomatch e),λi a e=>(nomatch e),λi s e=>?_,Ext.refl,.inl rfl,λi a e=>(nomatch e)⟩
 ·unfold Q.start L2.start;simp[hl]
 ·unfold Q.start at e;obtain⟨v,k1,k2⟩:=Z60 h e;refine⟨v,?_,?_⟩
  ·unfold L2.start;rw[← hl];exact k1
  ·cases s with
   |d x=>exact⟨rfl,by rw[q20];exact k2⟩|z=>exact⟨rfl,k2⟩
   |fr xs =>
    rcases Â0.mp (ò e) with q | q
    ·obtain⟨s',q1,q2⟩:=â.mp q;cases q2;exact absurd rfl (hn _ q1 xs)
    ·cases Û5 q
theorem Q51(st:d60 zA z H):k72 zA z1=H60 z z1:=by
 have st:=st.zat;cases zA with
 |none =>
  cases z with
  |none=>rfl|some p=>exact st.elim
 |some a =>
  cases z with
  |none=>exact st.elim|some p=>rfl
theorem o61(st:d60 zA z H):z.isNone=zA.isNone:=by
 have st:=st.zat;cases zA with
 |none =>
  cases z with
  |none=>rfl|some p=>exact st.elim
 |some a =>
  cases z with
  |none=>exact st.elim|some p=>rfl
theorem o71(g:GX P w K mg base G cn){lm:Bool}{N ps:List Str}{nm:Str}{st:Å6}{fa:Ç}{fd:È5}{b:Sm}{f:Nat}{F':FT}(Fn:Fun K nm nm st fa fd)(Sc:p50 N ps (c00 st))(hl:N.all (I60 (c00 st))=true)
  (ch:mtS lm G.fns G.nums cn (c00 st) N b (m00 st)=true) (hq:isQ b=true)
  (hF:∀ l z,F' false f l z=run G.F (.code ps.length N.length b) l z):c51 P w K mg base (CX1 P w) (G.lv + 1) fa fd ps (spF K { G with F:=F',lv:=G.lv + 1 } f ps.length):=by
 refine H32 Fn Sc (λvs H Q E h=>h.1) λcdv hcd A outer s H vs Qv E hr hsp=>?_;obtain⟨hlen,zA,z,ss,r,rv,st',e,po⟩:=hsp;refine⟨_,(f22 (H0:=H) (zE:=zA) (f32 g Sc hl hr hcd) b ch).1 hq,?_⟩;have e0:(if ss.length=ps.length/\ps.length<=N.length then(match ex G.F z.isNone b (Q.start N.length (ss.map plS)) z with
  |some (.ok (.nx _) z1)=>some (R.ok (S.d .non) (H60 z z1))|some (.ok (.rt s) z1)=>some (R.ok s (H60 z z1))|some (.er c z1)=>some (R.er c (H60 z z1))
  |none=>none) else none)=some r:=by
  have:=hF ss z;exact this.symm.trans e
 rw[o61 st'] at e0;split at e0
 ·have rw0:RW K H zA zA (λ_=>none) H (Q.start N.length (ss.map plS)) (L2.start N vs):=A61 rv.plS λs hs xs=>by
   obtain⟨s',_,rfl⟩:=â.mp hs;cases s' <;> exact λh=>nomatch h
  split at e0
  ·rename_i ρ z1 e1;cases e0;refine⟨zA,_,_,z,_,rw0,st',e1,λzA' ow' σ' H' r' st1 _=>?_⟩;refine po .non H' r'.ext ?_ (show Hd K (hz zA H') .non .non from Hd.non);rw[← Q51 st'];exact U21 r'.zok st1
  ·rename_i s1 z1 e1;cases e0;refine⟨zA,_,_,z,_,rw0,st',e1,λv H' nz x st1 rv'=>?_⟩;exact po v H' x (by rw[← Q51 st'];exact st1) rv'
  ·rename_i c z1 e1;cases e0;refine⟨zA,_,_,z,_,rw0,st',e1,λe H' x st1 hn=>?_⟩;exact po e H' x (by rw[← Q51 st'];exact st1) hn
  ·cases e0
 ·cases e0
def lev(G:Gs)(T:List Df)(k:Nat):Gs:={ G with F:=N70 T k,lv:=k }
theorem f42{T:List Df}(num:∀ p∈G.nums,∃ t,mg p.1=some (.int p.2 t))(blt:∀ n∈O31,mg n=none)
  (cls:∀ c x,cn[c]?=some x->mg x=some (.ref (G.cls c))/\Ì3 K (G.cls c) [.type "ValueError",.type "Exception",.type "BaseException",.type "object"] "ValueError.__new__"=true)
  (hd:∀ (f:Nat) (nm:Str) (ps:List Str),G.fns[f]?=some (nm,ps)->∃ (fa:Ç) (fd:È5),mg nm=some (.ref fa)/\PySem.W.keepIn K (.ref fa)=true/\Binds K fd ps [] /\
   ((∃ (lm:Bool) (N:List Str) (st:Å6) (b:Sm),T[f]?=some (Df.code ps.length N.length b)/\Fun K nm nm st fa fd/\p50 N ps (c00 st)/\N.all (I60 (c00 st))=true/\isQ b=true/\mtS lm G.fns G.nums cn (c00 st) N b (m00 st)=true) ∨
    T[f]?=none)):∀ k,GX P w K mg base (lev G T k) cn:=by
 have zero:∀ k,k < 3->GX P w K mg base (lev G T k) cn:=λk hk=>by
  refine⟨λf nm ps h=>?_,num,blt,cls⟩;obtain⟨fa,fd,h1,h2,h3,_⟩:=hd f nm ps h;refine⟨fa,fd,h1,h2,h3,λvs H Q E q=>q.1,λA outer s H args us vs Q E hr he hb hv hs=>?_⟩;obtain⟨_,zA,z,ss,r,_,_,e,_⟩:=hs
  match k,hk with
  |0,_=>cases e
  |1,_=>cases e
  |2,_=>cases e
 intro k
 induction k using Nat.strongRecOn with
 |ind k ih =>
  match k,ih with
  |0,_=>exact zero 0 (-0)|1,_=>exact zero 1 (-0)|2,_=>exact zero 2 (-0)
  |k + 3,ih =>
   refine⟨λf nm ps h=>?_,num,blt,cls⟩;obtain⟨fa,fd,h1,h2,h3,h4⟩:=hd f nm ps h;refine⟨fa,fd,h1,h2,h3,?_⟩;rcases h4 with ⟨lm,N,st,b,k1,k2,k3,k4,k5,k6⟩ | h4
   ·refine o71 (G:=lev G T (k + 2)) (F':=N70 T (k + 3)) (ih (k + 2) ∅) k2 k3 k4 k6 k5 λl z=>?_
    ·show(match T[f]? with | some d=>run (N70 T (k + 2)) d l | none=>M.no) z=_
     rw[k1];rfl
   ·refine⟨λvs H Q E q=>q.1,λA outer s H args us vs Q E hr he hb hv hs=>?_⟩;obtain⟨_,zA,z,ss,r,_,_,e,_⟩:=hs;have e':(match T[f]? with | some d=>run (N70 T (k + 2)) d ss | none=>M.no) z=some r:=e
    rw[h4] at e';cases e'
end
end Q
namespace L2
open PySem PySem.W PySem.Calls PyProof.Rows
def B60(thr sok:Thread->Bool)(stp:SharedT->Thread->Option (SharedT × Thread)):Nat->SharedT->Thread->Option SharedT
 |0,_,_=>none
 |n + 1,s,t=>match thr t with
  |true=>some s
  |false=>match sok t with
   |false=>none
   |true=>match stp s t with
    |some (s',t')=>B60 thr sok stp n s' t'|none=>none
theorem O70:∀ {n:Nat}{s s':SharedT}{t:Thread},B60 through (stepOk n₀ ann) (stepT (denote tb) p w) n s t=some s'->topRun tb p w n₀ ann n s.abs t=some s'.abs
 |0,_,_,_,h=>by cases h
 |n + 1,s,s',t,h=>by
  unfold B60 at h;unfold topRun;cases ht:through t with
  |true=>rw[ht] at h;cases h;rfl
  |false =>
   rw[ht] at h;cases hok:stepOk n₀ ann t with
   |false=>rw[hok] at h;cases h
   |true =>
    rw[hok] at h;cases hst:stepT (denote tb) p w s t with
    |none=>rw[hst] at h;cases h
    |some r=>obtain⟨s₂,t₂⟩:=r;rw[hst] at h;rw[stepT_spec hst];exact O70 h
def grow:List Obj->Nat->BT->BT
 |[],_,t=>t|o::r,i,t=>grow r (i + 1) (t.ins i o)
def Q61(w:ö)(os:OsState):SharedT:=⟨grow (Ç7 w.params).objs.toList 0 .nil,11,(Ç7 w.params).life,Array.mk [],boot_drawn,boot_toks,os⟩
theorem o81:∀ (w:ö) (os:OsState),(Q61 w os).abs=⟨Ç7 w.params,Array.mk [],boot_drawn,boot_toks,os⟩:=λw os=>by kernel_rfl
theorem o91:∀ w:ö,((Ç7 w.params).isNs ì&&(Array.mk []:Array GenState).size == 0,(Ç7 w.params).objs.size,(Ç7 w.params).nsMap ì "__annotations__")=(true,11,some (.ref 6)):=λw=>by kernel_rfl
theorem Q71{p q:à}{loose:List Str}{Xt:Å->Bool}{α:Type}{Yf:Å->α}{Ya:ö->α}{N:Nat}
  (e:opening p=plainProg p.main.scope.names) (hN:ble 600 N=true) (f:∀ s,fenceModules? p s=some s)
  (run:∀ (w:ö) (os:OsState),(B60 through (stepOk 11 (some (.ref 6))) (stepT (denote treeTable) p w) N (Q61 w os) (topStub p)).map (λs =>
   (staticsOk (Ì1 p.main.body) (Ç7 w.params) s.abs.heap&&namesBound p s.abs.heap&&gensDone s.abs&&laidKept (Ç7 w.params) s.abs.heap,
    openSeen q loose (Ì1 p.main.body) Xt true s.abs,Yf s.abs))=some (true,openGood q loose,Ya w)):LeftO p q loose Xt Yf Ya N:=λw=>by
 obtain⟨⟨h,gs,d,k,os⟩,e1,e2⟩:=É.mp (boot_open (N:=N) e hN f w);obtain⟨rfl,rfl,rfl,rfl⟩:h=Ç7 w.params/\gs=Array.mk []/\d=boot_drawn/\k=boot_toks:=by simpa using e2
 obtain⟨z1,z2,z3⟩:_/\_/\_:=by simpa only [Ñ5] using o91 w
 obtain⟨s1,r1,r2⟩:=É.mp (run w os);obtain⟨l1,l2,l3⟩:_/\_/\_:=by simpa only [Ñ5] using r2
 have r:=O70 r1;rw[o81] at r;unfold openEnds;rw[e1];show É2 _ (topFrom treeTable p w N _)=_;unfold topFrom;dsimp only;rw[z1,z2,z3,r];show É2 _ (match staticsOk (Ì1 p.main.body) (Ç7 w.params) s1.abs.heap&&namesBound p s1.abs.heap&&gensDone s1.abs&&laidKept (Ç7 w.params) s1.abs.heap with | true=>_ | false=>_)=_
 rw[l1];exact congrArg Option.some (Prod.ext l2 l3)
def O80(o:Obj):Bool:=match o with
 |⟨.none,none,.fields vs,sl⟩=>vs.isEmpty&&sl.isEmpty|_=>false
def v62(h:í)(a:Ç):Option Obj:=match h.get? a with
 |some o=>if O80 o then none else some o|none=>none
def fragOf(h:í):Frag:=(î h.objs.size).filterMap λa=>(v62 h a).map λo=>(a,o)
theorem s70(g:Ç->Option Obj)(a:Ç):∀ l:List Ç,(l.filterMap λa=>(g a).map λo=>(a,o)).lookup a=if a∈l then g a else none
 |[]=>rfl
 |b::r=>by
  by_cases hb:a=b
  ·subst hb;rw[if_pos Ð];cases hg:g a with
   |none =>
    rw[À5,hg];show(r.filterMap λa=>(g a).map λo=>(a,o)).lookup a=none;rw[s70 g a r];split
    ·exact hg
    ·rfl
   |some o =>
    rw[À5,hg];show É9 a ((a,o)::_)=some o;rw[List.lookup_cons_self]
  ·have hm:(a∈b::r)↔a∈r:=by rw[Ä4];exact⟨λh=>h.resolve_left hb,Or.inr⟩
   have ih:=s70 g a r;have e:(if a∈b::r then g a else none)=if a∈r then g a else none:=by simp only[hm]
   rw[e,← ih];cases hg:g b with
   |none=>rw[À5,hg];rfl
   |some o =>
    rw[À5,hg];show É9 a ((b,o)::_)=_;have:(a == b)=false:=by simpa using hb
    simp only[É9,this]
theorem p01(h:í):(fragOf h).In h:=λa o e=>by
 unfold fragOf at e;rw[s70] at e;split at e
 ·unfold v62 at e;cases hg:h.get? a with
  |none=>rw[hg] at e;cases e
  |some u =>
   rw[hg] at e;dsimp only at e;split at e
   ·cases e
   ·exact e
 ·cases e
theorem Q81(h:O80 o=true):o=tabObj #[]:=by
 unfold O80 at h;split at h
 ·rename_i vs sl;rw[Á,Array.isEmpty_iff,Array.isEmpty_iff] at h;obtain⟨rfl,rfl⟩:=h;rfl
 ·cases h
theorem e31(e:h.get? a=some o)(t:O80 o=true):(fragOf h).lookup a=none:=by
 unfold fragOf;rw[s70];split
 ·unfold v62;rw[e];exact if_pos t
 ·rfl
def p11(K:Frag)(x:Str):Option (Str × Str × Arguments × FuncBody × À9 × Ç × List (Str × Ç) × Ã × Ç × Bool):=match nsIn K ì x with
 |some (some (.ref at0))=>(match K.lookup at0 with
  |some ⟨_,_,.func fd,_⟩=>some (fd.name,fd.qualname,fd.params,fd.body,fd.scope,fd.globals,fd.closure,fd.defaults,fd.builtins,codeIn K fd.code x)
  |_=>none)
 |_=>none
def Q91(x:Str)(st:Å6):Option (Str × Str × Arguments × FuncBody × À9 × Ç × List (Str × Ç) × Ã × Ç × Bool):=some (x,x,F90 st,.stmts (m00 st),c00 st,ì,[],.none,Ö6,true)
theorem T90{K:Frag}{x:Str}{st:Å6}(e:p11 K x=Q91 x st):∃ f fd,nsIn K ì x=some (some (.ref f))/\Fun K x x st f fd/\∃ oc od sl,K.lookup f=some ⟨oc,od,.func fd,sl⟩:=by
 unfold p11 Q91 at e;split at e
 ·rename_i f hf;split at e
  ·rename_i oc od fd sl hl;obtain⟨nm,qn,pm,bd,sc,gl,cl,df,kd,dc,py,an,cd,ct,bl⟩:=fd;simp only[Ñ5,Ñ4] at e;obtain⟨rfl,rfl,rfl,rfl,rfl,rfl,rfl,rfl,rfl,hc⟩:=e;exact⟨f,_,hf,⟨⟨oc,od,kd,dc,py,an,cd,ct,sl,rfl,hl,hc⟩,by simp only[keepIn,hl]⟩,oc,od,sl,hl⟩
  ·cases e
 ·cases e
def tab0At(h:í)(T:Ç):Bool:=match h.get? T with
 |some o=>O80 o|none=>false
theorem p21{h:í}{T:Ç}(e:tab0At h T=true):h.get? T=some (tabObj #[]):=by
 unfold tab0At at e;split at e
 ·rename_i o ho;rw[ho,Q81 e]
 ·cases e
def p31(h:í)(K:Frag)(x:Str):Option Addr:=match nsIn K ì x with
 |some (some (.ref at0))=>(match K.lookup at0 with
  |some ⟨_,_,.func fn0,_⟩=>(match fn0.code with
   |.ref c=>(match K.lookup c with
    |some ⟨_,_,.fields vs,_⟩=>(match (vs[11]?:Option Ã) with
     |some (.ref T)=>if codeHdIn K c T&&tab0At h T then some T else none
     |_=>none)
    |_=>none)
   |_=>none)
  |_=>none)
 |_=>none
theorem e41{h:í}{K:Frag}{x:Str}{T:Ç}(e:p31 h K x=some T):h.get? T=some (tabObj #[])/\∃ f oc od fd sl c,nsIn K ì x=some (some (.ref f))/\K.lookup f=some ⟨oc,od,.func fd,sl⟩/\fd.code=.ref c/\codeHdIn K c T=true:=by
 unfold p31 at e;split at e
 ·rename_i f hf;split at e
  ·rename_i oc od fd sl hl;split at e
   ·rename_i c hc;split at e
    ·split at e
     ·rename_i T' _;split at e
      ·rename_i q;cases e;rw[Á] at q;obtain⟨q1,q2⟩:=q;exact⟨p21 q2,f,oc,od,fd,sl,c,hf,hl,hc,q1⟩
      ·cases e
     ·cases e
    ·cases e
   ·cases e
  ·cases e
 ·cases e
def e51(K:Frag)(x:Str):Option Addr:=match nsIn K ì x with
 |some (some (.ref f))=>some f|_=>none
theorem A71{K:Frag}{x:Str}{f:Ç}(e:e51 K x=some f):nsIn K ì x=some (some (.ref f)):=by
 unfold e51 at e;split at e
 ·cases e;assumption
 ·cases e
def p41(K:Frag)(C:Ç):Bool:=excIn K C [.type "ValueError",.type "Exception",.type "BaseException",.type "object"] "ValueError.__new__"
def F91(_:Str):Bool:=true
def U00(K:Frag)(x:Str):Option Int:=match nsIn K ì x with
 |some (some (.int i _))=>some i|_=>none
theorem U10{K:Frag}{x:Str}{i:Int}(e:U00 K x=some i):∃ t,nsIn K ì x=some (some (.int i t)):=by
 unfold U00 at e;split at e
 ·rename_i t h;cases e;exact⟨t,h⟩
 ·cases e
def U20(K:Frag)(x:Str):Bool:=match nsIn K ì x with
 |some none=>true|_=>false
theorem U30{K:Frag}{x:Str}(e:U20 K x=true):nsIn K ì x=some none:=by
 unfold U20 at e;split at e
 ·assumption
 ·cases e
structure l70 where
 ds:List (Str × Stmt)
 is:List (Str × Int)
 ns:List Str
 ms:List Str
 cs:List Str
def l70.obs(q:l70)(s:Å) :=
 let K:=fragOf s.heap
 (q.ds.map λd=>p11 K d.1,q.is.map λd=>U00 K d.1,q.ns.map (U20 K),q.ms.map λx=>(p31 s.heap K x).isSome,q.cs.map λx=>(e51 K x).map (p41 K),
  (specialIn K (.builtin "object.__class__") "__get__",takesIn K (.builtin "object.__class__")))
def l70.due(q:l70)(_:ö) :=
 (q.ds.map λd=>Q91 d.1 d.2,q.is.map λd=>some d.2,q.ns.map λ_=>true,q.ms.map λ_=>true,q.cs.map λx=>some (F91 x),
  (some (some (Ã.builtin "getset_descriptor.__get__")),some true))
structure Facts(q:l70)(K:Frag)(h:Heap):Prop where
 fn:∀ d∈q.ds,∃ f fd,nsIn K mainGlobals d.1=some (some (.ref f))/\Fun K d.1 d.1 d.2 f fd/\∃ oc od sl,K.lookup f=some ⟨oc,od,.func fd,sl⟩
 it:∀ d∈q.is,∃ t,nsIn K mainGlobals d.1=some (some (.int d.2 t))
 no:∀ x∈q.ns,nsIn K mainGlobals x=some none
 mt:∀ x∈q.ms,∃ T,h.get? T=some (tabObj #[])/\K.lookup T=none/\∃ f oc od fd sl c,nsIn K mainGlobals x=some (some (.ref f))/\K.lookup f=some ⟨oc,od,.func fd,sl⟩/\fd.code=.ref c/\codeHdIn K c T=true
 cl:∀ x∈q.cs,∃ C,nsIn K mainGlobals x=some (some (.ref C))/\p41 K C=F91 x
 sp:specialIn K (.builtin "object.__class__") "__get__"=some (some (Value.builtin "getset_descriptor.__get__"))
 tk:takesIn K (.builtin "object.__class__")=some true
theorem O90{α β:Type}{f g:α->β}:∀ {l:List α},l.map f=l.map g->∀ a∈l,f a=g a:=λ{l} h a ha=>List.map_inj_left.mp h a ha
theorem l70.facts(q:l70)(w:ö)(s:Å)(e:q.obs s=q.due w):Facts q (fragOf s.heap) s.heap:=by
 unfold l70.obs l70.due at e;simp only[Ñ5] at e;obtain⟨e1,e2,e3,e4,e5,e6,e7⟩:=e;refine⟨λd hd=>T90 (O90 e1 d hd),λd hd=>U10 (O90 e2 d hd),λx hx=>U30 (O90 e3 x hx),λx hx=>?_,λx hx=>?_,e6,e7⟩
 ·obtain⟨T,hT⟩:=Ú3.mp (O90 e4 x hx);obtain⟨h1,h2⟩:=e41 hT;exact⟨T,h1,e31 h1 rfl,h2⟩
 ·obtain⟨C,h1,h2⟩:=É.mp (O90 e5 x hx);exact⟨C,A71 h1,h2⟩
def l70.hook(q:l70):Hook where
 α:=_
 obs:=q.obs
 val:=q.due
 says:=λ_ h=>∃ K:Frag,K.In h/\Facts q K h
 of:=λw s e=>⟨_,p01 _,q.facts w s e⟩
 keeps:=λ_ h h' ⟨K,X,F⟩ k=>⟨K,X.keeps k,⟨F.fn,F.it,F.no,λx hx=>let ⟨T,a,b⟩:=F.mt x hx;⟨T,k _ _ a,b⟩,F.cl,F.sp,F.tk⟩⟩
end L2
namespace Q
open PySem L2 PySem.Spec PyProof.Rows
structure Row where
 nm:Str
 ps:List Str
 st:Stmt
 N:List Str
 b:Sm
 lm:Bool
def p51(N ps:List Str)(sc:À9):Bool:=sc.kind == .function&&!sc.isCoroutine&&!sc.isGenerator&&decide N.Nodup&&N.take ps.length == ps&&ps.all (λx=>sc.names.lookup x == some .local || sc.names.lookup x == some .cell)&&sc.names.all λy=>y.2 != .free
theorem Z70(h:p51 N ps sc=true):p50 N ps sc:=by
 unfold p51 at h;simp only[Á,ô,beq_iff_eq,Å5,decide_eq_true_eq,Ã3] at h;obtain⟨⟨⟨⟨⟨⟨h1,h2⟩,h3⟩,h4⟩,h5⟩,h6⟩,h7⟩:=h;exact⟨h1,h2,h3,h4,h5,h6,λy hy=>by simpa using h7 y hy⟩
def G01(r:Row):Prop:=∀ (kV doc pm:Ã) (an:Option Ç) (cdv ct:Ã) (us:List Ã),us.length=r.ps.length->bindArgs (fnOf r.nm r.nm (F90 r.st) (m00 r.st) (c00 r.st) .none kV doc pm an cdv ct) ⟨us,[]⟩=pure (r.ps.zip us)
def m40:List Row->Prop
 |[]=>True|r::l=>G01 r/\m40 l
theorem m40.at:∀ {l:List Row}{r:Row},m40 l->r∈l->G01 r
 |_::_,_,h,.head _=>h.1|_::_,_,h,.tail _ m=>m40.at h.2 m
theorem us1(h:us.length=1):∃ a,us=[a]:=List.length_eq_one_iff.mp h
theorem us2(h:us.length=2):∃ a b,us=[a,b]:=by
 match us,h with
 |[a,b],_=>exact⟨a,b,rfl⟩
theorem us3(h:us.length=3):∃ a b c,us=[a,b,c]:=by
 match us,h with
 |[a,b,c],_=>exact⟨a,b,c,rfl⟩
theorem us4(h:us.length=4):∃ a b c d,us=[a,b,c,d]:=by
 match us,h with
 |[a,b,c,d],_=>exact⟨a,b,c,d,rfl⟩
theorem us5(h:us.length=5):∃ a b c d e,us=[a,b,c,d,e]:=by
 match us,h with
 |[a,b,c,d,e],_=>exact⟨a,b,c,d,e,rfl⟩
def U31(fns:List (Str × List Str))(nums:List (Str × Int))(cn:List Str)(r:Row):Bool:=mtS r.lm fns nums cn (c00 r.st) r.N r.b (m00 r.st)&&isQ r.b&&r.N.all (I60 (c00 r.st))&&p51 r.N r.ps (c00 r.st)
def D00(rows:List Row):List (Str × List Str):=rows.map λr=>(r.nm,r.ps)
def tabOf(rows:List Row):List Df:=rows.map λr=>Df.code r.ps.length r.N.length r.b
def P00(rows:List Row)(nums:List (Str × Int))(cn:List Str):l70:=⟨rows.map (λr=>(r.nm,r.st)),nums,O31,[],cn⟩
def clsAt(K:Â)(cn:List Str)(c:Nat):Addr:=(e51 K (cn.getD c "")).getD 0
theorem f52{K:Â}{C:Ç}{cn:List Str}{c:Nat}{x:Str}(hc:cn[c]?=some x)(h:PySem.W.nsIn K ì x=some (some (.ref C))):clsAt K cn c=C:=by
 unfold clsAt;rw[Ü,hc];show(e51 K x).getD 0=C;unfold e51;rw[h];rfl
section
variable {P:à}{w:ö}{K:Â}{mg:Str->Option Ã}{base:í}
theorem ok0(F:c51 P w K mg base (CX1 P w) k f fd ps sp):c51 P w K mg base CX0 k f fd ps (λvs H Q _=>sp vs H Q λ_ _ _=>False) :=
 ⟨λvs H Q E h=>F.len _ _ _ _ h,λA outer s H args us vs Q E hr he hb hv hs=>Ñ9 (F.run A outer s H args us vs Q _ hr he hb hv hs) λr s' h=>by
  cases r with
  |error e =>
   obtain⟨_,_,_,_,_,_,_,_,_,_,_,_,_,hE⟩:=h;exact hE.elim
  |ok fl=>cases fl <;> exact h⟩
theorem H42:TriplesOk (#[]:Array Ã).toList:=by first | trivial | (unfold TriplesOk;trivial)
theorem o70.noT[TB:Tb](h:o70 K H a xs):o70 K (hz none H) a xs:=by
 rcases h with (h | ⟨o,h⟩) | h
 ·exact .inl (.inl (c90 h (λq=>nomatch q)))
 ·exact .inl (.inr ⟨o,c90 h (λq=>nomatch q)⟩)
 ·exact .inr h
theorem f62[TB:Tb]{G:Gs}{T:List Df}{k f:Nat}{H:Hp}{a:Ç}{ns:List Int}(pure:b40 T k f [.d (.lst (ns.map D.int))] none=some (.ok (.d (.bl true)) none))(hH:∀ p∈TB.tb,H p.1=some (.tbl #[]))(hS:o70 K H a (ns.map V.int)) :
  spF K (lev G T k) f 1 [.ref a] H (λv _=>v=.bl true) λ_ _ _=>False:=by
 refine⟨rfl,none,none,[.d (.lst (ns.map D.int))],_,.cons ?_ .nil,⟨trivial,λp hp=>⟨#[],hH p hp,H42,λpos c e=>nomatch e⟩⟩,pure,λv H' x st rv=>Hd.bl_ (show Hd K (hz none H') (.bl true) v from rv)⟩;show Hd K (hz none H) (.lst (ns.map D.int)) (.ref a);unfold Hd;exact⟨a,ns.map V.int,rfl,hS.noT,HdA.ints ns⟩
end
theorem f72{rows:List Row}{f:Nat}{nm:Str}{ps:List Str}(h:(D00 rows)[f]?=some (nm,ps)):∃ r∈rows,rows[f]?=some r/\r.nm=nm/\r.ps=ps:=by
 unfold D00 at h;rw[Û] at h;obtain⟨r,h1,h2⟩:=É.mp h;cases h2;exact⟨r,ò h1,h1,rfl,rfl⟩
section
variable [TB:Tb] {P:à}{w:ö}{K:Â}{h:í}{mg:Str->Option Ã}{base:í}{rows:List Row}{nums:List (Str × Int)}{cn:List Str}
theorem R01(Q:Facts (P00 rows nums cn) K h):∀ c x,cn[c]?=some x->PySem.W.nsIn K ì x=some (some (.ref (clsAt K cn c)))/\Ì3 K (clsAt K cn c) [.type "ValueError",.type "Exception",.type "BaseException",.type "object"] "ValueError.__new__"=true:=λc x hc=>by
 obtain⟨C,h1,h2⟩:=Q.cl x (ò hc);rw[f52 hc h1];exact⟨h1,h2⟩
theorem R11(X:K.In h)(Gn:h.Ns ì mg)(Q:Facts (P00 rows nums cn) K h)(ok:rows.all (U31 (D00 rows) nums cn)=true)(bd:m40 rows)(F0:FT):∀ k,GX P w K mg base (lev ⟨D00 rows,nums,F0,clsAt K cn,0⟩ (tabOf rows) k) cn:=by
 refine f42 (λp hp=>?_) (λn hn=>?_) (λc x hc=>?_) λf nm ps hf=>?_
 ·obtain⟨t,e⟩:=Q.it p hp;exact⟨t,mg_of X Gn e⟩
 ·exact PySem.W.mg_none_of X Gn (Q.no n hn)
 ·obtain⟨h1,h3⟩:=R01 Q c x hc;exact⟨mg_of X Gn h1,h3⟩
 ·obtain⟨r,hr,hr2,rfl,rfl⟩:=f72 hf;obtain⟨fa,fd,a1,F1,oc,od,sl,lk⟩:=Q.fn (r.nm,r.st) (â.mpr ⟨r,hr,rfl⟩);have rb:=ï.mp ok r hr;unfold U31 at rb;simp only[Á] at rb;obtain⟨⟨⟨b1,b2⟩,b3⟩,b4⟩:=rb;refine⟨fa,fd,mg_of X Gn a1,F1.kp,F1.binds (bd.at hr),.inl ⟨r.lm,r.N,r.st,r.b,?_,F1,Z70 b4,b3,b2,b1⟩⟩;unfold tabOf;rw[Û,hr2];rfl
theorem f82(X:K.In h)(Gn:h.Ns ì mg)(Q:Facts (P00 rows nums cn) K h)(ok:rows.all (U31 (D00 rows) nums cn)=true)(bd:m40 rows)(F0:FT)(k:Nat){i:Nat}{r:Row}(hi:rows[i]?=some r){fa:Ç}{fd:È5}(F1:Fun K r.nm r.nm r.st fa fd):c51 P w K mg base (CX1 P w) (k + 3) fa fd r.ps (spF K (lev ⟨D00 rows,nums,F0,clsAt K cn,0⟩ (tabOf rows) (k + 3)) i r.ps.length):=by
 have hr:=ò hi;have rb:=ï.mp ok r hr;unfold U31 at rb;simp only[Á] at rb;obtain⟨⟨⟨b1,b2⟩,b3⟩,b4⟩:=rb;refine o71 (G:=lev ⟨D00 rows,nums,F0,clsAt K cn,0⟩ (tabOf rows) (k + 2)) (F':=N70 (tabOf rows) (k + 3)) (R11 X Gn Q ok bd F0 (k + 2)) F1 (Z70 b4) b3 b1 b2 λl z=>?_;show(match (tabOf rows)[i]? with | some d=>run (N70 (tabOf rows) (k + 2)) d l | none=>M.no) z=_
 unfold tabOf;rw[Û,hi];rfl
end
theorem p61{P:à}{w:ö}{K:Â}{mg mb:Str->Option Ã}{k:Nat}{fa a:Ç}{fd:È5}{x:Str}{sp:Sp}{s₁:Å}{vs:List Ã}{ns:List Int}{ts:List Ç}
  (KX:K.In s₁.heap) (hns:s₁.heap.Ns ì mg) (hb:s₁.heap.Ns Ö6 mb) (hbb:∀ x:Str,x≠"__name__"->mb x=ë x) (hlim:s₁.heap.NoLimit) (hg:s₁.gens=#[])
  (ha:s₁.heap.get? a=some { cls:=.type "list",data:=.seq vs.toArray }) (hi:È7 vs ns) (hl:ns.length<=sizeLine) (hr:Q50 k Ù3)
  (hT:∀ Pt∈ts,s₁.heap.get? Pt=some (Ö8 #[])/\K.lookup Pt=none/\∃ c,Ô6 K c Pt=true) (bmn:BMain mg s₁.heap)
  (F:∀ base:í,K.In base->base.Ns ì mg->BMain mg base->c51 P w K mg base CX0 k fa fd [x] sp) (hbind:∀ (s:Å) (u:Ã),BindsTo s fd ⟨[u],[]⟩ [(x,u)])
  (hsp:∀ H:Hp,(∀ Pt∈ts,H Pt=some (.tbl #[]))->o70 K H a (ns.map V.int)->sp [.ref a] H (λv _=>v=.bl true) λ_ _ _=>False) :
  Ù2 (Ô P w) Ù3 (.call (.ref fa) ⟨[.ref a],[]⟩) (λr s'=>r=.ok (.ret (.bool true))/\OldK s₁.heap s'.heap/\s'.os=s₁.os/\Ò2 s'.gens) s₁:=by
 have rv:=M60 hi;have lenV:=hi.length;have naT:a ∉ ts:=λh=>by have:=(hT a h).1;rw[ha] at this;cases this
 have core:∀ H:Hp,(∀ Pt∈ts,H Pt=some (.tbl #[]))->(∀ b,H b=none∨b∈ts∨(b=a/\∃ xs,H b=some (.frz { cls:=.type "list",data:=.seq vs.toArray } (.lst xs))))->o70 K H a (ns.map V.int)->HOk P w H s₁.heap->(H a≠none->K.lookup a=none) ->
   Ù2 (Ô P w) Ù3 (.call (.ref fa) ⟨[.ref a],[]⟩) (λr s'=>r=.ok (.ret (.bool true))/\OldK s₁.heap s'.heap/\s'.os=s₁.os/\Ò2 s'.gens) s₁:=by
  intro H hH hO hS hok hK;have plainN:∀ {b:Ç}{o:Obj},s₁.heap.get? b=some o->(∀ xs n,o.data≠.seq xs n)->(∀ xs,o.data≠.fields xs)->H b=none:=λ{b o} e d1 d2=>by
   rcases hO b with z | z | ⟨z,_⟩
   ·exact z
   ·have:=(hT b z).1;rw[e] at this;cases this;exact absurd rfl (d2 _)
   ·rw[z,ha] at e;cases e;exact absurd rfl (d1 _ _)
  have nsK:∀ {b:Ç}{m:Str->Option Ã},s₁.heap.Ns b m->(u41 s₁.heap H).Ns b m:=λ{b m} ⟨o,es,ep,e,d,r⟩=>⟨o,es,ep,F30 e (plainN e (λxs n z=>by rw[d] at z;cases z) λxs z=>by rw[d] at z;cases z),d,r⟩
  have hKb:K.In (u41 s₁.heap H):=λb o e=>F30 (KX b o e) (by
   rcases hO b with z | z | ⟨z,xs,z2⟩
   ·exact z
   ·rw[(hT b z).2.1] at e;cases e
   ·rw[z] at e z2;rw[hK (by rw[z2];exact λy=>nomatch y)] at e;cases e)
  have hM:Mod K mg (u41 s₁.heap H):=⟨hKb,nsK hns,⟨mb,nsK hb,hbb⟩,let ⟨mc,h1,h2⟩:=hlim;⟨mc,nsK h1,h2⟩⟩;have hBM:BMain mg (u41 s₁.heap H):=by
   obtain⟨bm,ob,b1,b2,b3,b4,b5,b6⟩:=bmn;exact⟨bm,ob,b1,b2,F30 b3 (plainN b3 (λxs n z=>by rw[b6] at z;cases z) λxs z=>by rw[b6] at z;cases z),b4,b5,b6⟩
  have e0:j82 P w K mg (u41 s₁.heap H) Ù3 [] s₁ H:=⟨rfl,hM,λb o e=>H91 e,Õ7 (f71 _ _),trivial,λb hb=>absurd (show b∈([]:List Ç) from hb) (by simp),hok,.of_eq hg⟩
  refine Ñ9 ((F _ hKb (nsK hns) hBM).run Ù3 [] s₁ H ⟨[.ref a],[]⟩ [.ref a] [.ref a] _ _ hr e0 (hbind s₁ (.ref a)) (.cons rfl .nil) (hsp H hH hS)) λr s' h=>?_;cases r with
  |error e=>exact Ä2 h
  |ok fl =>
   cases fl with
   |next=>exact Ä2 h
   |brk=>exact Ä2 h|cont=>exact Ä2 h
   |ret u =>
    obtain⟨v,H',os,bare,un,hok',r',q⟩:=h;have q':v=.bl true:=q;subst q';obtain rfl:u=Ë4 true:=r';refine⟨rfl,⟨λb o e=>?_,λb o e=>un.there b o e (by simp)⟩,os,bare⟩
    rcases hO b with z | z | ⟨z,xs,z2⟩
    ·exact .inl (un.keep b o e z (by intro y;exact absurd (show b∈([]:List Ç) from y) (by simp)) (by simp))
    ·obtain⟨t1,_,c,t2⟩:=hT b z;rw[e] at t1;cases t1;obtain⟨more,m1⟩:=un.tbls b _ (hH b z);have m2:s'.heap.get? b=some { cls:=.none,data:=.fields (#[]++more) }:=hok' b _ m1;have CH:=PySem.W.codeHd_of_K KX t2;exact .inr (.inl ⟨(CH.tab e).isCodeTable,rfl,#[],more,rfl,m2⟩)
    ·have z3:=un.frzs b _ _ z2;obtain⟨e1,_⟩:=hok b _ z2;obtain⟨e2,_⟩:=hok' b _ z3;rw[e] at e1;cases e1;exact .inl e2
 cases hk:K.lookup a with
 |some o =>
  have e:=KX a o hk;rw[ha] at e;cases e;refine core (λb=>if b∈ts then some (.tbl #[]) else none) (λPt h=>if_pos h) (λb=>?_) (.inr ⟨vs.toArray,_,hk,by rw[Ó,lenV];exact hl,by simpa using rv⟩) (λb u z=>?_) λz=>absurd (if_neg naT) z
  ·by_cases h:b∈ts
   ·exact .inr (.inl h)
   ·exact .inl (if_neg h)
  ·by_cases h:b∈ts
   ·have z':=(if_pos h).symm.trans z;cases z';exact(hT b h).1
   ·have z':=(if_neg h).symm.trans z;cases z'
 |none =>
  refine core (λb=>if b=a then some (.frz { cls:=.type "list",data:=.seq vs.toArray } (.lst (ns.map V.int))) else if b∈ts then some (.tbl #[]) else none) (λPt h=>?_) (λb=>?_) (.inl (.inr ⟨{ cls:=.type "list",data:=.seq vs.toArray },if_pos rfl⟩)) (λb u z=>?_) λ_=>hk
  ·rw[if_neg (λy=>naT (by rw[← y];exact h)),if_pos h]
  ·by_cases hb:b=a
   ·exact .inr (.inr ⟨hb,_,if_pos hb⟩)
   ·by_cases h:b∈ts
    ·exact .inr (.inl h)
    ·exact .inl (by rw[if_neg hb,if_neg h])
  ·by_cases hb:b=a
   ·have z':=(if_pos hb).symm.trans z;cases z';subst hb;exact⟨ha,by rw[Ë];exact hl,vs,_,rv,ha⟩
   ·replace z:=(if_neg hb).symm.trans z
    by_cases h:b∈ts
    ·have z':=(if_pos h).symm.trans z;cases z';exact(hT b h).1
    ·have z':=(if_neg h).symm.trans z;cases z'
theorem A81{l:PySem.W.OpenLaw}{n k:Nat}{q:à}{loose:List Str}{XP:(Str->Option Ã)->í->Prop}{d:DefRec}{A:l70}{x:Str}
  (hn:l.most=some n) (hn2:n<=sizeLine) (hdf:d.params.defaults=[]) (hr:Q50 k Ù3)
  (F:∀ (w:ö) (mg:Str->Option Ã) (fa:Ç) (h:í) (K:Â),Facts A K h->K.In h->h.Ns ì mg->mg d.name=some (.ref fa) ->
   ∃ (fd:È5) (ts:List Ç) (sp:Sp),(∀ Pt∈ts,h.get? Pt=some (Ö8 #[])/\K.lookup Pt=none/\∃ c,Ô6 K c Pt=true)/\(∀ (s:Å) (u:Ã),BindsTo s fd ⟨[u],[]⟩ [(x,u)]) /\
    (∀ base:í,K.In base->base.Ns ì mg->BMain mg base->c51 l.prog w K mg base CX0 k fa fd [x] sp) /\
    ∀ (H:Hp) (a:Ç) (ns:List Int),ns.length<=n->(∀ Pt∈ts,H Pt=some (.tbl #[]))->o70 K H a (ns.map V.int)->sp [.ref a] H (λv _=>v=.bl true) λ_ _ _=>False) :
  PySem.W.WalkO q loose XP A.hook.says l.row.toRowW d [] (λf vs=>PySem.call f vs):=by
 refine Att.R40 hn hdf λw s₀ s₁ mg mb fa o pm cd doc a vs ns G Y ho hd hcd hmg hobj hints hlen hg=>?_;obtain⟨K,KX,FX⟩:=Y;obtain⟨fd,ts,sp,hT,hb,hF,hsp⟩:=F w mg fa _ K FX KX G.T.g hmg;exact p61 KX G.T.g G.T.b G.T.builtins G.T.nolimit hg hobj hints (Ò hlen hn2) hr hT G.T.bmain hF hb λH hH hS=>hsp H a ns hlen hH hS
theorem R21{l:PySem.W.OpenLaw}{rows:List Row}{nums:List (Str × Int)}{cn:List Str}{k iL n:Nat}{rL:Row}(ok:rows.all (U31 (D00 rows) nums cn)=true)(bd:m40 rows)(hL:rows[iL]?=some rL)(hn:rL.nm="law")(hp:rL.ps=[("_law_script":Str)])
  (pure:∀ ns:List Int,ns.length<=n->b40 (tabOf rows) (k + 3) iL [.d (.lst (ns.map D.int))] none=some (.ok (.d (.bl true)) none)) (w:ö) (mg:Str->Option Ã) (fa:Ç) (h:í) (K:Â) (Q:Facts (P00 rows nums cn) K h) (X:K.In h) (Gn:h.Ns ì mg) (hfa:mg "law"=some (.ref fa)) :
   ∃ (fd:È5) (ts:List Ç) (sp:Sp),(∀ Pt∈ts,h.get? Pt=some (Ö8 #[])/\K.lookup Pt=none/\∃ c,Ô6 K c Pt=true)/\(∀ (s:Å) (u:Ã),BindsTo s fd ⟨[u],[]⟩ [("_law_script",u)]) /\
    (∀ base:í,K.In base->base.Ns ì mg->BMain mg base->c51 l.prog w K mg base CX0 (k + 3) fa fd ["_law_script"] sp) /\
    ∀ (H:Hp) (a:Ç) (ns:List Int),ns.length<=n->(∀ Pt∈ts,H Pt=some (.tbl #[]))->o70 K H a (ns.map V.int)->sp [.ref a] H (λv _=>v=.bl true) λ_ _ _=>False:=by
 have hrL:rL∈rows:=ò hL;obtain⟨fL,fdL,aL,FL,ocL,odL,slL,lkL⟩:=Q.fn (rL.nm,rL.st) (â.mpr ⟨rL,hrL,rfl⟩);have bL:=bd.at hrL;have e:=hfa.symm.trans (mg_of X Gn (by rw[← hn];exact aL))
 cases e;have bT:∀ (s:Å) (u:Ã),BindsTo s fdL ⟨[u],[]⟩ [("_law_script",u)]:=by
  obtain⟨_,_,kV,doc,pm,an,cdv,ct,_,e,_,_⟩:=FL.ex;subst e;intro s u;have:=bL kV doc pm an cdv ct [u] (by rw[hp];rfl)
  rw[hp] at this;exact .of_eq this
 let TB:Tb:=⟨[]⟩
 refine⟨fdL,[],λvs H Q _=>spF K (lev ⟨D00 rows,nums,λ_ _ _=>M.no,clsAt K cn,0⟩ (tabOf rows) (k + 3)) iL 1 vs H Q λ_ _ _=>False,λp hp=>(nomatch hp),bT,λbase kb nb bm=>?_,λH a ns hl hH hS=>f62 (pure ns hl) (λp hp=>nomatch hp) hS⟩;have F:=ok0 (f82 (P:=l.prog) (w:=w) (base:=base) X Gn Q ok bd (λ_ _ _=>M.no) k hL FL);rw[hp] at F;exact F
end Q
namespace Q
open L2 (D)
open PySem (Paired)
def Z80:Ex->Bool
 |.var _=>false|_=>true
def H52:Ex->Env->Option (Option S)
 |.var i,ρ=>ρ[i]?|_,_=>none
def z32:Option (Option S)->Option S
 |some (some s)=>noS s|_=>none
def blS:S->Option Bool
 |.d (.bl b)=>some b|_=>none
abbrev Du{α:Type}(_:α->Z->Prop)(_:Nat->Z->Prop):Type:=Unit
abbrev Dv{α:Type}(_:α->Prop):Type:=Unit
structure W{α:Type}(m:M α)(z:Z)(Q:α->Z->Prop)(E:Nat->Z->Prop)(du:Du Q E:=()):Prop where
 ex:∃ r,m z=some r/\match r with
  |.ok a z1=>Q a z1|.er c z1=>E c z1
theorem W_e{α:Type}{m:M α}{Q:α->Z->Prop}:W m z Q E↔∃ r,m z=some r/\match r with
  |.ok a z1=>Q a z1|.er c z1=>E c z1:=⟨W.ex,W.mk⟩
abbrev NE:Nat->Z->Prop:=λ_ _=>False
def Get{α:Type}(o:Option α)(P:α->Prop)(_:Dv P:=()):Prop:=match o with
 |some a=>P a|none=>False
theorem f92{α:Type}{a:α}{P:α->Prop}:Get (some a) P↔P a:=Iff.rfl
theorem j50{α:Type}{o:Option α}{P:α->Prop}(h:Get o P):∃ a,o=some a/\P a:=by
 cases o with
 |none=>exact h.elim|some a=>exact⟨a,rfl,h⟩
theorem a00{α:Type}{o:Option α}{a:α}{P:α->Prop}(h:o=some a)(hp:P a):Get o P:=by rw[h];exact hp
section
variable {α β:Type}{m:M α}{z z1:Z}{Q Q':α->Z->Prop}{E E':Nat->Z->Prop}
theorem W.mono(h:W m z Q E)(hq:∀ a z,Q a z->Q' a z)(he:∀ c z,E c z->E' c z):W m z Q' E':=by
 obtain⟨r,e,h⟩:=h;refine⟨r,e,?_⟩;cases r with
 |ok a z1=>exact hq _ _ h|er c z1=>exact he _ _ h
theorem W.imp(h:W m z Q NE)(hq:∀ a z,Q a z->Q' a z):W m z Q' E':=h.mono hq λ_ _ h=>h.elim
theorem W.ok{a:α}(h:W m z (λb z2=>b=a/\z2=z1) NE):m z=some (.ok a z1):=by
 obtain⟨r,e,h⟩:=h;cases r with
 |ok b z2=>obtain⟨rfl,rfl⟩:=h;exact e
 |er c z2=>exact h.elim
theorem z42{a:α}(h:m z=some (.ok a z1)):W m z Q E↔Q a z1:=by
 rw[W_e];constructor
 ·rintro ⟨r,e,q⟩;rw[h] at e;cases e;exact q
 ·exact λq=>⟨_,h,q⟩
theorem H62{c:Nat}(h:m z=some (.er c z1)):W m z Q E↔E c z1:=by
 rw[W_e];constructor
 ·rintro ⟨r,e,q⟩;rw[h] at e;cases e;exact q
 ·exact λq=>⟨_,h,q⟩
theorem x50{a:α}:W (M.ret a) z Q E↔Q a z:=z42 rfl
theorem g02:W (M.no:M α) z Q E↔False:=⟨λ⟨_,e,_⟩=>(by cases e),Ä2⟩
theorem m50{f:α->M β}{Q:β->Z->Prop}:W (M.bind m f) z Q E↔W m z (λa z1=>W (f a) z1 Q E) E:=by
 constructor
 ·rintro ⟨r,e,q⟩;unfold M.bind at e;split at e
  ·rename_i a z1 e1;exact⟨_,e1,r,e,q⟩
  ·rename_i c z1 e1;cases e;exact⟨_,e1,q⟩
  ·cases e
 ·rintro ⟨r,e,q⟩;cases r with
  |ok a z1 =>
   obtain⟨r,e2,q⟩:=q;refine⟨r,?_,q⟩;unfold M.bind;rw[e];exact e2
  |er c z1 =>
   refine⟨.er c z1,?_,q⟩;unfold M.bind;rw[e]
theorem G11:W (M.calm m) z Q E↔W m z Q NE:=by
 rw[W_e,W_e];unfold M.calm;constructor
 ·rintro ⟨r,e,q⟩;split at e
  ·rename_i a z1 e1;cases e;exact⟨_,e1,q⟩
  ·cases e
 ·rintro ⟨r,e,q⟩;cases r with
  |ok a z1=>exact⟨.ok a z1,by rw[e],q⟩|er c z1=>exact q.elim
theorem R31(h:∀ a z,Q a z↔Q' a z):W m z Q E↔W m z Q' E:=⟨λx=>x.mono (λa z=>(h a z).mp) λ_ _ h=>h,λx=>x.mono (λa z=>(h a z).mpr) λ_ _ h=>h⟩
theorem wR{a:α}:Q a z↔W (M.ret a) z Q E:=x50.symm
theorem wN:False↔W (M.no:M α) z Q E:=g02.symm
theorem wT{c:Prop}[Decidable c]{a b:M α}{A B:Prop}(h1:A↔W a z Q E)(h2:B↔W b z Q E):(if c then A else B)↔W (if c then a else b) z Q E:=by
 split <;> assumption
theorem wG{o:Option β}{f:β->M α}{K:β->Prop}(h:∀ a,K a↔W (f a) z Q E):Get o K↔W (M.bind (M.of o) f) z Q E:=by
 cases o with
 |none=>exact g02.symm|some a=>exact h a
theorem wB{m:M β}{f:β->M α}{V:Prop}{K:β->Z->Prop}(h1:V↔W m z K E)(h2:∀ a z1,K a z1↔W (f a) z1 Q E):V↔W (M.bind m f) z Q E:=h1.trans ((R31 h2).trans m50.symm)
end
def Wm{α:Type}(o:Option (R α))(Q:α->Z->Prop)(E:Nat->Z->Prop):Prop:=match o with
 |some (.ok a z1)=>Q a z1|some (.er c z1)=>E c z1|none=>False
theorem wM{α:Type}{m:M α}{z:Z}{Q:α->Z->Prop}{E:Nat->Z->Prop}:Wm (m z) Q E↔W m z Q E:=by
 rw[W_e];unfold Wm;cases h:m z with
 |none=>exact⟨Ä2,λ⟨_,e,_⟩=>by cases e⟩
 |some r =>
  refine⟨λq=>⟨r,rfl,?_⟩,λ⟨_,e,q⟩=>?_⟩
  ·cases r <;> exact q
  ·cases e;cases r <;> exact q
def Vr(o:Option (Option S))(z:Z)(Q:List S->Z->Prop)(_:Du Q NE:=()):Prop:=match o with
 |some (some s)=>Q [plS s] z|_=>False
def WV:FT->Ex->Env->Z->(List S->Z->Prop)->(Nat->Z->Prop)->Prop
 |F,.nil=>λρ z Q E=>Q [] z|F,.cons a r=>λρ z Q E=>WV F a ρ z (λx z1=>Get (one x) λs=>WV F r ρ z1 (λy z2=>Q (s::y) z2) E) E|F,.con x=>λρ z Q E=>Q [.d x] z|F,.gint g i=>λρ z Q E=>Q [.d (.int i)] z|F,.tup as=>λρ z Q E=>WV F as ρ z (λl z1=>Get (plA l) λds=>if ds.length<=most then Q [.d (.tup ds)] z1 else False) E|F,.lst as=>λρ z Q E=>WV F as ρ z (λl z1=>Get (plA l) λds=>if ds.length<=most then Q [.fr ds] z1 else False) E|F,.bin o a b=>λρ z Q E=>WV F a ρ z (λx z1=>Get (pl x) λdx=>WV F b ρ z1 (λy z2=>Get (pl y) λdy=>Get (u50 o dx dy) λs=>Q [s] z2) E) E|F,.cmp o a b=>λρ z Q E=>WV F a ρ z (λx z1=>Get (pl x) λdx=>WV F b ρ z1 (λy z2=>Get (pl y) λdy=>Get (C70 o dx dy) λt=>Q [.d (.bl t)] z2) E) E|F,.neg a=>λρ z Q E=>WV F a ρ z (λx z1=>Get ((pl x).bind asI) λi=>Q [.d (.int (-i))] z1) E|F,.not a=>λρ z Q E=>WV F a ρ z (λx z1=>Get ((pl x).bind asB) λb=>Q [.d (.bl !b)] z1) E|F,.and a b=>λρ z Q E=>WV F a ρ z (λx z1=>Get ((pl x).bind asB) λc=>if c then WV F b ρ z1 (λy z2=>Get ((pl y).bind asB) λc=>Q [.d (.bl c)] z2) E else Q [.d (.bl false)] z1) E|F,.or a b=>λρ z Q E=>WV F a ρ z (λx z1=>Get ((pl x).bind asB) λc=>if c then Q [.d (.bl true)] z1 else WV F b ρ z1 (λy z2=>Get ((pl y).bind asB) λc=>Q [.d (.bl c)] z2) E) E|F,.orT a b=>λρ z Q E=>WV F a ρ z (λx z1=>Get ((pl x).bind Z51) λl=>if l.isEmpty then WV F b ρ z1 (λy z2=>Get ((pl y).bind Z51) λl=>Q [.d (.tup l)] z2) NE else Q [.d (.tup l)] z1) NE|F,.ite c a b=>λρ z Q E=>WV F c ρ z (λx z1=>Get ((pl x).bind asB) λc=>if c then WV F a ρ z1 Q E else WV F b ρ z1 Q E) E|F,.ch o o' a b c=>λρ z Q E=>WV F a ρ z (λx z1=>Get (pl x) λdx=>WV F b ρ z1 (λy z2=>Get (pl y) λdy=>Get (C70 o dx dy) λt=>if t then WV F c ρ z2 (λw z3=>Get (pl w) λdw=>Get (C70 o' dy dw) λt=>Q [.d (.bl t)] z3) E else Q [.d (.bl false)] z2) E) E|F,.bf f as=>λρ z Q E=>WV F as ρ z (λl z1=>Get (plA l) λds=>Get (bfD f ds) λs=>Q [s] z1) E|F,.isi t a=>λρ z Q E=>WV F a ρ z (λx z1=>Get (pl x) λx=>Q [.d (.bl (k42 t x))] z1) E|F,.idx a i=>λρ z Q E=>WV F a ρ z (λx z1=>Get (pl x) λdx=>WV F i ρ z1 (λy z2=>Get (pl y) λdy=>Get (d71 dx dy) λr=>Q [.d r] z2) E) E|F,.sl a lo hi=>λρ z Q E=>WV F a ρ z (λx z1=>Get (pl x) λdx=>WV F lo ρ z1 (λu z2=>Get (k51 u) λu=>WV F hi ρ z2 (λv z3=>Get (k51 v) λv=>Get (slD dx u v) λs=>Q [s] z3) E) E) E|F,.rev a=>λρ z Q E=>WV F a ρ z (λx z1=>Get ((pl x).bind y62) λs=>Q [s] z1) E|F,.call f as=>λρ z Q E=>WV F as ρ z (λl z1=>W (F false f (l.map plS)) z1 (λs z2=>Q [s] z2) E) E|F,.comp own capt p it src cond el=>λρ z Q E=>WV F src ρ z (λl z1=>Get ((plA l).bind (itD it)) λxs=>if xs.length<=most then W (turns (m10 (ev F cond) (ev F el) p (Õ own none++capt.map λi=>(ρ[i]?).getD none)) xs) z1 (λys z2=>Q [.fr ys] z2) NE else False) E|F,.lrng b as=>λρ z Q E=>WV F as ρ z (λl z1=>Get ((plA l).bind lrD) λxs=>Q [lrS b xs] z1) E|F,.var i=>λρ z Q E=>Vr ρ[i]? z Q|F,.zget i k=>λρ z Q E=>Wm (k61 k ρ[i]? z) Q E
def WE(F:FT)(e:Ex)(ρ:Env)(z:Z)(Q:List S->Z->Prop)(E:Nat->Z->Prop)(_:Du Q E:=()):Prop:=WV F e ρ z Q E
def WX(F:FT)(tp:Bool):Sm->Env->Z->(O->Z->Prop)->(Nat->Z->Prop)->Prop
 |.nil=>λρ z Q E=>Q (.nx ρ) z
 |.seq s r=>λρ z Q E=>WX F tp s ρ z (λo z1=>match o with
  |.nx ρ=>WX F tp r ρ z1 Q E
  |.rt s=>Q (.rt s) z1) E
 |.set p e=>λρ z Q E=>WE F e ρ z (λl z1=>Get (one l) λs=>Get (A50 p s (e80 s ρ)) λρ'=>Q (.nx ρ') z1) E|.ret e=>λρ z Q E=>if Z80 e then WE F e ρ z (λl z1=>Get ((one l).bind noS) λs=>Q (.rt s) z1) E else Get (z32 (H52 e ρ)) λs=>Q (.rt s) z|.iff c t e=>λρ z Q E=>WE F c ρ z (λx z1=>Get ((pl x).bind asB) λb=>if b then WX F tp t ρ z1 Q E else WX F tp e ρ z1 Q E) E|.exp e=>λρ z Q E=>WE F e ρ z (λl z1=>Get (one l) λ_=>Q (.nx ρ) z1) E|.rais c=>λρ z Q E=>E c z|.fr p it src b=>λρ z Q E=>WE F src ρ z (λl z1=>Get ((plA l).bind (itD it)) λxs=>W (Q80 (λx ρ=>M.bind (M.of (d50 p x ρ)) λρ=>ex F tp b ρ) xs (k71 it src l ρ)) z1 Q E) E|.whl c b=>λρ z Q E=>W (E01 (ev F c) (ex F tp b) T81 ρ) z Q E|.zset i e=>λρ z Q E=>WE F e ρ z (λl z1=>Get ((pl l).bind asI) λv=>Wm (k91 ρ v ρ[i]? z1) Q E) E|.app i e=>λρ z Q E=>Get (ownAt ρ i) λxs=>WE F e ρ z (λl z1=>Get (pl l) λx=>if bare x=true/\xs.length < most then Q (.nx (ρ.set i (some (.fr (xs++[x]))))) z1 else False) E|.newz i f as=>λρ z Q E=>WE F (.call f as) ρ z (λl z1=>Wm (k81 tp ρ i l) Q E) E|.augi i ix e=>λρ z Q E=>Get (ownAt ρ i) λxs=>WE F ix ρ z (λj z1=>Get ((pl j).bind asI) λj=>Get (L2.atI xs j) λy=>WE F e ρ z1 (λl z2=>Get (pl l) λx=>Get ((asI x).bind λx=>(asI y).map λy=>D.int (y + x)) λv=>Get (D90 xs j v) λxs=>Q (.nx (ρ.set i (some (.fr xs)))) z2) E) E|.aug o i e=>λρ z Q E=>Get ((ρ[i]?.getD none).bind plD) λy=>WE F e ρ z (λl z1=>Get ((pl l).bind asI) λx=>Get ((asI y).bind λy=>u50 o (.int y) (.int x)) λs=>Get (A50 (.v i) s (e80 s ρ)) λρ=>Q (.nx ρ) z1) E
def WS(F:FT)(tp:Bool)(s:Sm)(ρ:Env)(z:Z)(Q:O->Z->Prop)(E:Nat->Z->Prop)(_:Du Q E:=()):Prop:=WX F tp s ρ z Q E
theorem g12:∀ (e:Ex) {F:FT}{ρ:Env}{z:Z}{Q:List S->Z->Prop}{E:Nat->Z->Prop},WV F e ρ z Q E↔W (ev F e ρ) z Q E:=by
 intro e
 induction e with
 |nil=>intros;exact wR|cons a r ha hr=>intros;exact wB ha λx z1=>wG λs=>wB hr λy z2=>wR
 |var i =>
  intro F ρ z Q E;show Vr ρ[i]? z Q↔W (match ρ[i]? with | some (some s)=>M.ret [plS s] | _=>M.no) z Q E
  generalize ρ[i]?=o
  match o with
  |some (some s)=>exact wR|some none=>exact wN|none=>exact wN
 |con x=>intros;exact wR|gint g i=>intros;exact wR|tup a ha=>intros;exact wB ha λl z1=>wG λds=>wT wR wN|lst a ha=>intros;exact wB ha λl z1=>wG λds=>wT wR wN|bin o a b ha hb=>intros;exact wB ha λx z1=>wG λdx=>wB hb λy z2=>wG λdy=>wG λs=>wR|cmp o a b ha hb=>intros;exact wB ha λx z1=>wG λdx=>wB hb λy z2=>wG λdy=>wG λs=>wR|neg a ha=>intros;exact wB ha λx z1=>wG λi=>wR|not a ha=>intros;exact wB ha λx z1=>wG λi=>wR|and a b ha hb=>intros;exact wB ha λx z1=>wG λc=>wT (wB hb λy z2=>wG λc=>wR) wR|or a b ha hb=>intros;exact wB ha λx z1=>wG λc=>wT wR (wB hb λy z2=>wG λc=>wR)|orT a b ha hb=>intros;refine Iff.trans ?_ G11.symm;exact wB ha λx z1=>wG λl=>wT (wB hb λy z2=>wG λl=>wR) wR|ite c a b hc ha hb=>intros;exact wB hc λx z1=>wG λc=>wT ha hb|ch o o' a b c ha hb hc=>intros;exact wB ha λx z1=>wG λdx=>wB hb λy z2=>wG λdy=>wG λt=>wT (wB hc λw z3=>wG λdw=>wG λt=>wR) wR|bf f a ha=>intros;exact wB ha λl z1=>wG λds=>wG λs=>wR|isi t a ha=>intros;exact wB ha λx z1=>wG λx=>wR|idx a i ha hi=>intros;exact wB ha λx z1=>wG λdx=>wB hi λy z2=>wG λdy=>wG λr=>wR|sl a l h ha hl hh=>intros;exact wB ha λx z1=>wG λdx=>wB hl λu z2=>wG λu=>wB hh λv z3=>wG λv=>wG λs=>wR|rev a ha=>intros;exact wB ha λx z1=>wG λs=>wR|call f a ha=>intros;exact wB ha λl z1=>wB Iff.rfl λs z2=>wR|comp own capt p it src cond el hs hc he=>intros;exact wB hs λl z1=>wG λxs=>wT (wB G11.symm λys z2=>wR) wN|zget i k=>intros;exact wM (m:=k61 k _)|lrng b a ha=>intros;exact wB ha λl z1=>wG λxs=>wR
theorem b80{e:Ex}{F:FT}{ρ:Env}{z:Z}{Q:List S->Z->Prop}{E:Nat->Z->Prop}:WE F e ρ z Q E↔W (ev F e ρ) z Q E:=g12 e
theorem v72{F:FT}{tp:Bool}{ρ:Env}{e:Ex}(h:Z80 e=true):ex F tp (.ret e) ρ=M.bind (ev F e ρ) λl=>M.bind (M.of ((one l).bind noS)) λs=>M.ret (.rt s):=by
 cases e with
 |var i=>cases h
 |_=>rfl
theorem g22{F:FT}{tp:Bool}:∀ (s:Sm) {ρ:Env}{z:Z}{Q:O->Z->Prop}{E:Nat->Z->Prop},WX F tp s ρ z Q E↔W (ex F tp s ρ) z Q E:=by
 intro s
 induction s with
 |nil=>intros;exact wR
 |seq s r hs hr =>
  intros;refine wB hs λo z1=>?_;cases o with
  |nx ρ=>exact hr|rt s=>exact wR
 |set p e=>intros;exact wB b80 λl z1=>wG λs=>wG λρ'=>wR
 |ret e =>
  intro ρ z Q E;show(if Z80 e then _ else _)↔_;cases h:Z80 e with
  |true =>
   refine(iff_of_eq (if_pos rfl)).trans ?_;rw[v72 h];exact wB b80 λl z1=>wG λs=>wR
  |false =>
   cases e with
   |var i =>
    refine(iff_of_eq (if_neg Ñ)).trans ?_;show Get (z32 ρ[i]?) _↔W (match ρ[i]? with | some (some s)=>M.bind (M.of (noS s)) λs=>M.ret (O.rt s) | _=>M.no) z Q E
    generalize ρ[i]?=o
    match o with
    |some (some s)=>exact wG λs=>wR|some none=>exact wN|none=>exact wN
   |_=>cases h
 |iff c t u ht hu=>intros;exact wB b80 λx z1=>wG λc=>wT ht hu|exp e=>intros;exact wB b80 λl z1=>wG λs=>wR|rais c=>intros;exact(H62 rfl).symm|fr p it src b ih=>intros;exact wB b80 λl z1=>wG λxs=>Iff.rfl|whl c b ih=>intros;exact Iff.rfl|zset i e=>intros;exact wB b80 λl z1=>wG λv=>wM (m:=k91 _ v _)|app i e=>intros;exact wG λxs=>wB b80 λl z1=>wG λx=>wT wR wN|newz i f as=>intros;exact wB b80 λl z1=>wM (m:=λ_=>k81 tp _ i l)|augi i ix e=>intros;exact wG λxs=>wB b80 λj z1=>wG λj=>wG λy=>wB b80 λl z2=>wG λx=>wG λv=>wG λxs=>wR|aug o i e=>intros;exact wG λy=>wB b80 λl z1=>wG λx=>wG λs=>wG λρ=>wR
theorem P10:WS F tp s ρ z Q E↔W (ex F tp s ρ) z Q E:=g22 s
theorem WS.mono{s:Sm}{F:FT}{tp:Bool}{ρ:Env}{z:Z}{Q Q':O->Z->Prop}{E E':Nat->Z->Prop}(h:WS F tp s ρ z Q E)(hq:∀ a z,Q a z->Q' a z)(he:∀ c z,E c z->E' c z):WS F tp s ρ z Q' E':=P10.mpr (W.mono (P10.mp h) hq he)
theorem g32(Mid:Env->Z->Prop)(h:WS F tp s ρ z (λo z1=>match o with
  |.nx ρ=>Mid ρ z1
  |.rt s=>Q (.rt s) z1) E) (h2:∀ ρ z,Mid ρ z->WS F tp r ρ z Q E):WS F tp (.seq s r) ρ z Q E:=by
 refine WS.mono (s:=s) h (λo z1 h=>?_) λ_ _ h=>h;cases o with
 |nx ρ=>exact h2 ρ z1 h|rt s=>exact h
section
variable {T:List Df}{k f ps ns:Nat}{b:Sm}{l:List S}{z:Z}{Q:S->Z->Prop}{E:Nat->Z->Prop}
theorem g42(h:T[f]?=some (.code ps ns b))(hl:l.length=ps)(hn:ps<=ns):W (b40 T (k + 3) f l) z Q E↔WS (N70 T (k + 2)) z.isNone b (start ns (l.map plS)) z (λo z1=>match o with
  |.nx _=>Q (.d .non) (H60 z z1)
  |.rt s=>Q s (H60 z z1)) λc z1=>E c (H60 z z1):=by
 refine Iff.trans ?_ P10.symm;rw[S50,h];show W (λz=>if l.length=ps/\ps<=ns then(match ex (N70 T (k + 2)) z.isNone b (start ns (l.map plS)) z with
  |some (.ok (.nx _) z1)=>some (R.ok (S.d .non) (H60 z z1))|some (.ok (.rt s) z1)=>some (.ok s (H60 z z1))|some (.er c z1)=>some (.er c (H60 z z1))
  |none=>none) else none) z Q E↔_
 rw[W_e,W_e];constructor
 ·rintro ⟨r,e,q⟩;rw[if_pos ⟨hl,hn⟩] at e;split at e
  ·rename_i ρ z1 e1;cases e;exact⟨_,e1,q⟩
  ·rename_i s z1 e1;cases e;exact⟨_,e1,q⟩
  ·rename_i c z1 e1;cases e;exact⟨_,e1,q⟩
  ·cases e
 ·rintro ⟨r,e,q⟩;rw[if_pos ⟨hl,hn⟩,e]
  match r,q with
  |.ok (.nx ρ) z1,q=>exact⟨_,rfl,q⟩|.ok (.rt s) z1,q=>exact⟨_,rfl,q⟩|.er c z1,q=>exact⟨_,rfl,q⟩
end
section
variable {F:FT}{tp:Bool}{ρ:Env}{z:Z}{E:Nat->Z->Prop}
theorem U40{f:D->M (Option D)}{o:D->Option D}:∀ {xs:List D}{Q:List D->Z->Prop},(∀ x∈xs,f x z=some (.ok (o x) z))->(W (turns f xs) z Q E↔Q (xs.filterMap o) z)
 |[],Q,_=>x50
 |x::r,Q,h=>by
  show W (M.bind (f x) _) z Q E↔_;rw[m50,z42 (h x Ð),m50,U40 λy hy=>h y (Ì _ hy),x50];rw[À5];cases o x <;> rfl
theorem Z90{f:D->M (Option D)}{I:Z->Prop}{P:D->D->Prop}:∀ {xs:List D}{z:Z}{Q:List D->Z->Prop},I z->(∀ x∈xs,∀ z,I z->W (f x) z (λo z1=>I z1/\∃ y,o=some y/\P x y) NE)->(∀ ys z1,I z1->Ã6 P xs ys->Q ys z1)->W (turns f xs) z Q E
 |[],z,Q,hi,_,q=>x50.mpr (q [] z hi .nil)
 |x::r,z,Q,hi,h,q=>by
  show W (M.bind (f x) _) z Q E;rw[m50];refine(h x Ð z hi).imp λo z1 ⟨hi1,y,e,hp⟩=>?_;subst e;rw[m50];refine Z90 hi1 (λx' hx'=>h x' (Ì _ hx')) λys z2 hi2 hps=>?_;exact x50.mpr (q _ _ hi2 (.cons hp hps))
theorem G21(I:List D->Env->Z->Prop):∀ (xs:List D) {ρ:Env}{z:Z},I xs ρ z->(∀ x r ρ z,I (x::r) ρ z->W (f x ρ) z (λo z1=>match o with
  |.nx ρ=>I r ρ z1
  |.rt s=>Q (.rt s) z1) E)->(∀ ρ z,I [] ρ z->Q (.nx ρ) z)->W (Q80 f xs ρ) z Q E
 |[],ρ,z,hi,_,q=>x50.mpr (q _ _ hi)
 |x::r,ρ,z,hi,h,q=>by
  show W (M.bind (f x ρ) _) z Q E;rw[m50];refine(h x r ρ z hi).mono (λo z1 ho=>?_) λ_ _ h=>h;cases o with
  |nx ρ1=>exact G21 I r ho h q|rt s=>exact x50.mpr ho
theorem g52{c:Env->M (List S)}{f:Env->M O}{Q:O->Z->Prop}(I:Nat->Env->Z->Prop)(step:∀ n ρ z,I n ρ z->W (c ρ) z (λx z1=>Get ((pl x).bind asB) λk=>if k then W (f ρ) z1 (λo z2=>match o with
  |.nx ρ=>∃ m,m < n/\I m ρ z2
  |.rt s=>Q (.rt s) z2) E else Q (.nx ρ) z1) E):∀ (n m:Nat) {ρ:Env}{z:Z},I n ρ z->n < m->W (E01 c f m ρ) z Q E:=by
 intro n
 induction n using Nat.strongRecOn with
 |ind n ih =>
  intro m ρ z hi hm;cases m with
  |zero=>omega
  |succ m =>
   show W (M.bind (c ρ) _) z Q E;rw[m50];refine(step n ρ z hi).mono (λx z1 h=>?_) λ_ _ h=>h;obtain⟨k,e,h⟩:=j50 h;refine(wG (K:=λk=>if k=true then W (M.bind (f ρ) _) z1 Q E else W (M.ret (O.nx ρ)) z1 Q E) λk=>wT Iff.rfl Iff.rfl).mp (a00 e ?_);cases k with
   |true =>
    rw[if_pos rfl] at h ⊢;rw[m50];refine h.mono (λo z2 h=>?_) λ_ _ h=>h;cases o with
    |nx ρ1 =>
     obtain⟨j,hj,hi⟩:=h;exact ih j hj m hi ∅
    |rt s=>exact x50.mpr h
   |false =>
    rw[if_neg Ñ] at h ⊢;exact x50.mpr h
end
mutual
noncomputable def cE:D->Ex
 |.tup l=>.tup (cEs l)|.lst l=>.lst (cEs l)|.int i=>if i < 0 then .neg (.con (.int (-i))) else .con (.int i)|x=>.con x
noncomputable def cEs:List D->Ex
 |[]=>.nil|x::r=>.cons (cE x) (cEs r)
end
mutual
noncomputable def okC:D->Bool
 |.tup l=>decide (l.length<=most)&&v82 l|.lst l=>decide (l.length<=most)&&v82 l|_=>true
noncomputable def v82:List D->Bool
 |[]=>true|x::r=>okC x&&v82 r
end
def cX(d:D)(_:okC d=true):Ex:=cE d
section
variable {F:FT}{ρ:Env}{z:Z}{Q:List S->Z->Prop}{E:Nat->Z->Prop}{a b c as:Ex}{p:Pat}{ρ0:Env}{x:D}{Q1:Option D->Z->Prop}
theorem p71:W (m10 (ev F .nil) (ev F a) p ρ0 x) z Q1 E↔Get (d50 p x ρ0) λρ=>WE F a ρ z (λy z1=>Get (pl y) λd=>Q1 (some d) z1) E :=
 (wG λρ=>show _↔W (M.bind (ev F a ρ) λy=>M.bind (M.of (pl y)) λy=>M.ret (some y)) z Q1 E from wB b80 λy z1=>wG λd=>wR).symm
theorem g62{l:List S}{m:M (List S)}{V:Prop}(h:V↔W (M.bind m λy=>M.bind (M.of (pl y)) λy=>M.ret (some y)) z Q1 E):(match l with | [s]=>Get (blS s) λb=>if b then V else Q1 none z | _=>l=[]/\V)↔W (match l with
  |[]=>M.bind m λy=>M.bind (M.of (pl y)) λy=>M.ret (some y)|[.d (.bl true)]=>M.bind m λy=>M.bind (M.of (pl y)) λy=>M.ret (some y)|[.d (.bl false)]=>M.ret none
  |_=>M.no) z Q1 E:=by
 match l with
 |[]=>exact⟨λx=>h.mp x.2,λx=>⟨rfl,h.mpr x⟩⟩|[.d (.bl true)]=>exact f92.trans ((iff_of_eq (if_pos rfl)).trans h)|[.d (.bl false)]=>exact f92.trans ((iff_of_eq (if_neg Ñ)).trans wR)|[.d .non]=>exact wN|[.d (.int _)]=>exact wN|[.d (.str _)]=>exact wN|[.d (.tup _)]=>exact wN|[.d (.lst _)]=>exact wN|[.d .dct]=>exact wN|[.fr _]=>exact wN|[.z]=>exact wN
 |s::_::_ =>
  refine⟨λx=>(by cases x.1),λx=>?_⟩
  cases s with
  |d y =>
   cases y with
   |bl b=>cases b <;> exact(g02.mp x).elim
   |_=>exact(g02.mp x).elim
  |_=>exact(g02.mp x).elim
theorem p81:W (m10 (ev F (.cons c .nil)) (ev F a) p ρ0 x) z Q1 E↔Get (d50 p x ρ0) λρ=>WE F c ρ z (λy z1=>Get (one y) λs=>Get (blS s) λb=>if b then WE F a ρ z1 (λy z2=>Get (pl y) λd=>Q1 (some d) z2) E else Q1 none z1) E:=by
 refine Iff.symm (wG λρ=>?_);refine wB (b80 (F:=F) (e:=.cons c .nil) (ρ:=ρ) (Q:=λl z1=>match l with | [s]=>Get (blS s) λb=>if b then WE F a ρ z1 (λy z2=>Get (pl y) λd=>Q1 (some d) z2) E else Q1 none z1 | _=>l=[]/\WE F a ρ z1 (λy z2=>Get (pl y) λd=>Q1 (some d) z2) E)) λl z1=>?_
 exact g62 (wB b80 λy z1=>wG λd=>wR)
end
section
variable {α:Type}{m:M α}{z z1:Z}{Q Q':α->Z->Prop}{E:Nat->Z->Prop}
theorem Wo(h:m z=some (.ok a z1))(q:Q a z1):W m z Q E:=⟨_,h,q⟩
end
theorem k50{T:List Df}{k f ps ns:Nat}{b:Sm}{l:List S}{z:Z}{Q:S->Z->Prop}{E:Nat->Z->Prop}(h:T[f]?=some (.code ps ns b))(hl:l.length=ps)(hn:ps<=ns)(q:WS (N70 T (k + 2)) z.isNone b (start ns (l.map plS)) z (λo z1=>match o with
  |.nx _=>Q (.d .non) (H60 z z1)
  |.rt s=>Q s (H60 z z1)) λc z1=>E c (H60 z z1)):W (b40 T (k + 3) f l) z Q E:=(g42 h hl hn).mpr q
theorem ib{b:Bool}{A B:Prop}(ht:b=true->A)(hf:b=false->B):if b=true then A else B:=by
 cases b with
 |true=>exact ht rfl|false=>exact hf rfl
theorem it{b:Bool}{A B:Prop}(h:b=true)(a:A):if b=true then A else B:=by rw[if_pos h];exact a
theorem ie{b:Bool}{A B:Prop}(h:b=false)(a:B):if b=true then A else B:=by rw[h];exact a
theorem ip{c:Prop}[Decidable c]{A B:Prop}(h:c)(a:A):if c then A else B:=by rw[if_pos h];exact a
theorem p91(z:Z):H60 z z=z:=by cases z <;> rfl
theorem sd{s t:S}{z:Z}(h:s=t):s=t/\H60 z z=z:=⟨h,p91 z⟩
theorem sb(h:b=c):S.d (.bl b)=S.d (.bl c)/\H60 z z=z:=sd (by rw[h])
section
variable {F:FT}{tp:Bool}{z:Z}{E:Nat->Z->Prop}{p:Pat}
theorem I70(I:List D->Env->Z->Prop)(xs:List D)(hi:I xs ρ z)(h:∀ x r ρ z,I (x::r) ρ z->Get (d50 p x ρ) λρ=>WS F tp b ρ z (λo z1=>match o with
  |.nx ρ=>I r ρ z1
  |.rt s=>Q (.rt s) z1) E) (q:∀ ρ z,I [] ρ z->Q (.nx ρ) z):W (Q80 (λx ρ=>M.bind (M.of (d50 p x ρ)) λρ=>ex F tp b ρ) xs ρ) z Q E :=
 G21 I xs hi (λx r ρ z hi=>(wG λρ=>P10).mp (h x r ρ z hi)) q
theorem g72(I:Nat->Env->Z->Prop)(n:Nat)(hi:I n ρ z)(hn:n < T81)(h:∀ n ρ z,I n ρ z->WE F c ρ z (λx z1=>Get ((pl x).bind asB) λk=>if k then WS F tp b ρ z1 (λo z2=>match o with
  |.nx ρ=>∃ m,m < n/\I m ρ z2
  |.rt s=>Q (.rt s) z2) E else Q (.nx ρ) z1) E):W (E01 (ev F c) (ex F tp b) T81 ρ) z Q E:=by
 refine g52 I (λn ρ z hi=>?_) n T81 hi hn;refine(b80.mp (h n ρ z hi)).mono (λx z1 h=>?_) λ_ _ h=>h;obtain⟨k,e,h⟩:=j50 h;refine a00 e ?_;cases k with
 |true=>exact P10.mp h|false=>exact h
variable {ρ0:Env}{cond el:Ex}{xs:List D}{Q:List D->Z->Prop}
theorem q01(o:D->D)(h:∀ x∈xs,Get (d50 p x ρ0) λρ=>WE F el ρ z (λy z1=>Get (pl y) λd=>d=o x/\z1=z) NE)(q:Q (xs.map o) z):W (turns (m10 (ev F .nil) (ev F el) p ρ0) xs) z Q E:=by
 refine(U40 (o:=λx=>some (o x)) λx hx=>?_).mpr ?_
 ·refine W.ok (p71.mpr ?_);obtain⟨ρ,e,h⟩:=j50 (h x hx);refine a00 e (b80.mpr ((b80.mp h).imp λy z1 h=>?_));obtain⟨d,e,rfl,rfl⟩:=j50 h;exact a00 e ⟨rfl,rfl⟩
 ·rw[show xs.filterMap (λx=>some (o x))=xs.map o from congrFun (List.filterMap_eq_map (f:=o)) xs];exact q
theorem v92{c:D->Bool}{o:D->D}:∀ xs:List D,xs.filterMap (λx=>if c x then some (o x) else none)=(xs.filter c).map o
 |[]=>rfl
 |x::r=>by
  rw[À5,filter_cons];cases hc:c x with
  |false=>exact v92 r|true=>exact congrArg (o x::·) (v92 r)
theorem z52(c:D->Bool)(o:D->D)(h:∀ x∈xs,Get (d50 p x ρ0) λρ=>WE F cond ρ z (λy z1=>Get (one y) λs=>s=.d (.bl (c x))/\z1=z/\(c x=true->WE F el ρ z (λy z1=>Get (pl y) λd=>d=o x/\z1=z) NE)) NE)(q:Q ((xs.filter c).map o) z):W (turns (m10 (ev F (.cons cond .nil)) (ev F el) p ρ0) xs) z Q E:=by
 refine(U40 (o:=λx=>if c x then some (o x) else none) λx hx=>?_).mpr ?_
 ·refine W.ok (p81.mpr ?_);obtain⟨ρ,e,h⟩:=j50 (h x hx);refine a00 e (b80.mpr ((b80.mp h).imp λy z1 h=>?_));obtain⟨s,e,rfl,rfl,h⟩:=j50 h;refine a00 e ?_;show if c x=true then _ else _;cases hc:c x with
  |false=>exact⟨rfl,rfl⟩
  |true =>
   refine b80.mpr ((b80.mp (h hc)).imp λy z1 h=>?_);obtain⟨d,e,rfl,rfl⟩:=j50 h;exact a00 e ⟨rfl,rfl⟩
 ·rw[v92];exact q
theorem g82{I:Z->Prop}(o:D->D):∀ {xs:List D}{z:Z}{Q:List D->Z->Prop},I z->(∀ x∈xs,∀ z,I z->Get (d50 p x ρ0) λρ=>WE F cond ρ z (λy z1=>Get (one y) λs=>I z1/\∃ b,s=.d (.bl b)/\(b=true->WE F el ρ z1 (λy z2=>Get (pl y) λd=>d=o x/\z2=z1) NE)) NE) ->
  (∀ ys z1,I z1->ys.Sublist (xs.map o)->Q ys z1)->W (turns (m10 (ev F (.cons cond .nil)) (ev F el) p ρ0) xs) z Q E
 |[],z,Q,hi,_,q=>x50.mpr (q [] z hi .slnil)
 |x::r,z,Q,hi,h,q=>by
  show W (M.bind (m10 _ _ p ρ0 x) _) z Q E;refine m50.mpr (p81.mpr ?_);obtain⟨ρ,e,h0⟩:=j50 (h x Ð z hi);refine a00 e (b80.mpr ((b80.mp h0).imp λy z1 h1=>?_));obtain⟨s,e,hi1,b,rfl,h2⟩:=j50 h1;refine a00 e ?_;show if b=true then _ else _;have hr:=λ{Q:List D->Z->Prop} (q:∀ ys z1,I z1->ys.Sublist (r.map o)->Q ys z1)=>g82 o (z:=z1) hi1 (λy hy=>h y (Ì _ hy)) q;cases b with
  |false=>exact m50.mpr (hr λys z2 hi2 hs=>x50.mpr (q ys z2 hi2 (hs.cons _)))
  |true =>
   refine b80.mpr ((b80.mp (h2 rfl)).imp λy z2 h3=>?_);obtain⟨d,e,rfl,rfl⟩:=j50 h3;exact a00 e (m50.mpr (hr λys z2 hi2 hs=>x50.mpr (q _ z2 hi2 (hs.cons_cons _))))
theorem H72{I:Z->Prop}{P:D->D->Prop}(hi:I z)(h:∀ x∈xs,∀ z,I z->Get (d50 p x ρ0) λρ=>WE F el ρ z (λy z1=>Get (pl y) λd=>I z1/\P x d) NE)(q:∀ ys z1,I z1->Ã6 P xs ys->Q ys z1):W (turns (m10 (ev F .nil) (ev F el) p ρ0) xs) z Q E:=by
 refine Z90 hi (λx hx z hz=>p71.mpr ?_) q;obtain⟨ρ,e,h⟩:=j50 (h x hx z hz);refine a00 e (b80.mpr ((b80.mp h).imp λy z1 h=>?_));obtain⟨d,e,h⟩:=j50 h;exact a00 e ⟨h.1,d,rfl,h.2⟩
end
theorem B70{s:S}{ρ:Env}(h:C80 s=true):e80 s ρ=ρ:=by
 unfold e80;rw[N40,h];rfl
theorem I80{F:FT}{tp:Bool}{p:Pat}{e:Ex}{r:Sm}{ρ:Env}{z:Z}{Q:O->Z->Prop}{E:Nat->Z->Prop}(s:S)(ρ':Env)(he:WE F e ρ z (λl z1=>Get (one l) λt=>t=s/\z1=z) NE)(hb:A50 p s (e80 s ρ)=some ρ')(q:WS F tp r ρ' z Q E):WS F tp (.seq (.set p e) r) ρ z Q E:=by
 show WE F e ρ z (λl z1=>Get (one l) λs=>Get (A50 p s (e80 s ρ)) λρ'=>WX F tp r ρ' z1 Q E) E;refine b80.mpr ((b80.mp he).imp λl z1 h=>?_);obtain⟨t,e,rfl,rfl⟩:=j50 h;exact a00 e (a00 hb q)
end Q
namespace K3
open PySem L2 Q
def top(i:Nat):Stmt:=ê.main.body.getD i (.Pass ⟨0,0,0,0⟩)
def nums:List (Str × Int):=[(("MOST_PLACES":Str),(6:Int)),(("MOST_TIES":Str),(8:Int)),(("MOST_BOTTOM":Str),(1000:Int))]
abbrev v0:Ex:=.var 0
abbrev v1:Ex:=.var 1
abbrev v2:Ex:=.var 2
abbrev v3:Ex:=.var 3
abbrev v4:Ex:=.var 4
abbrev v5:Ex:=.var 5
abbrev v6:Ex:=.var 6
abbrev v7:Ex:=.var 7
abbrev v8:Ex:=.var 8
abbrev v9:Ex:=.var 9
abbrev v10:Ex:=.var 10
abbrev n0:Ex:=.con (.int 0)
abbrev n1:Ex:=.con (.int 1)
abbrev n2:Ex:=.con (.int 2)
abbrev c1(a:Ex):Ex:=.cons a .nil
abbrev c2(a b:Ex):Ex:=.cons a (.cons b .nil)
abbrev c3(a b c:Ex):Ex:=.cons a (.cons b (.cons c .nil))
abbrev c4(a b c d:Ex):Ex:=.cons a (.cons b (.cons c (.cons d .nil)))
abbrev c5(a b c d e:Ex):Ex:=.cons a (.cons b (.cons c (.cons d (.cons e .nil))))
abbrev s1(a:Sm):Sm:=.seq a .nil
abbrev p2(a b:Pat):Pat:=.tup (.cons a (.cons b .nil))
abbrev f90:Nat:=0
abbrev y50:Nat:=1
abbrev G31:Nat:=2
abbrev q11:Nat:=3
abbrev B80:Nat:=4
abbrev j60:Nat:=5
abbrev o40:Nat:=6
abbrev a01:Nat:=7
abbrev E40:Nat:=8
abbrev a11:Nat:=9
abbrev q21:Nat:=10
abbrev j70:Nat:=11
abbrev f10:Nat:=12
abbrev c60:Nat:=13
abbrev E50:Nat:=14
abbrev w30:Nat:=15
abbrev q40:Nat:=16
abbrev s80:Nat:=17
abbrev p30:Nat:=18
abbrev m60:Nat:=19
abbrev E60:Nat:=20
abbrev k60:Nat:=21
abbrev s90:Nat:=22
abbrev m70:Nat:=23
abbrev q50:Nat:=24
abbrev t00:Nat:=25
abbrev e20:Nat:=26
abbrev w40:Nat:=27
abbrev t10:Nat:=28
abbrev P20:Nat:=29
abbrev m80:Nat:=30
abbrev q31:Nat:=31
abbrev p40:Nat:=32
abbrev w50:Nat:=33
abbrev b00:Nat:=34
abbrev u70:Nat:=35
abbrev k70:Nat:=36
abbrev t20:Nat:=37
abbrev t30:Nat:=38
abbrev w60:Nat:=39
abbrev g92:Nat:=40
def g00:Sm:=(.seq (.whl (.cmp .gt v1 n0) (s1 (.set (p2 (.v 0) (.v 1)) (.tup (c2 v1 (.bin .mod v0 v1)))))) (s1 (.ret v0)))
def I90:Sm:=(.seq (.set (.v 2) (.call f90 (c2 v0 v1))) (s1 (.ret (.tup (c2 (.bin .fdiv v0 v2) (.bin .fdiv v1 v2))))))
def q41:Sm:=(s1 (.ret (.call y50 (c2 (.bin .add (.bin .mul (.idx v0 n0) (.idx v1 n1)) (.bin .mul (.idx v1 n0) (.idx v0 n1))) (.bin .mul (.idx v0 n1) (.idx v1 n1))))))
def U50:Sm:=(s1 (.ret (.call y50 (c2 (.bin .mul (.idx v0 n0) (.idx v1 n0)) (.bin .mul (.idx v0 n1) (.idx v1 n1))))))
def B90:Sm:=(s1 (.ret (.cmp .lt (.bin .mul (.idx v0 n0) (.idx v1 n1)) (.bin .mul (.idx v1 n0) (.idx v0 n1)))))
def E70:Sm:=(s1 (.ret (.and (.isi .int v0) (.not (.isi .bool v0)))))
def u80:Sm:=(s1 (.ret (.and (.call j60 (c1 v0)) (.ch .le .lt n0 v0 v1))))
def J00:Sm:=(.seq (.iff (.or (.not (.isi .tuple v0)) (.cmp .ne (.bf .len (c1 v0)) n2)) (s1 (.ret (.con (.bl false)))) .nil) (.seq (.set (p2 (.v 2) (.v 3)) v0) (s1 (.ret (.and (.call o40 (c2 v2 v1)) (.and (.call o40 (c2 v3 v1)) (.cmp .lt v2 v3)))))))
def u90:Sm:=(.seq (.iff (.or (.not (.isi .tuple v0)) (.cmp .gt (.bf .len (c1 v0)) (.gint "MOST_TIES" 8))) (s1 (.ret (.con (.bl false)))) .nil) (.seq (.iff (.not (.bf .all (c1 (.comp 1 [1] (.v 0) .seq (c1 v0) .nil (.call a01 (c2 v0 v1)))))) (s1 (.ret (.con (.bl false)))) .nil) (s1 (.ret (.bf .all (c1 (.comp 2 [] (p2 (.v 0) (.v 1)) .zip (c2 v0 (.sl v0 (c1 n1) .nil)) .nil (.cmp .le v0 v1))))))))
def J10:Sm:=(.seq (.iff (.or (.not (.isi .tuple v0)) (.cmp .ne (.bf .len (c1 v0)) n2)) (s1 (.ret (.con (.bl false)))) .nil) (.seq (.set (p2 (.v 1) (.v 2)) v0) (s1 (.ret (.and (.call j60 (c1 v1)) (.and (.ch .le .le n1 v1 (.gint "MOST_PLACES" 6)) (.call E40 (c2 v2 v1))))))))
def U60:Sm:=(s1 (.ret (.bf .all (c1 (.comp 2 [] (p2 (.v 0) (.v 1)) .zip (c2 v0 (.sl v0 (c1 n1) .nil)) .nil (.cmp .lt v0 v1))))))
def f20:Sm:=(.seq (.iff (.not (.isi .tuple v0)) (s1 (.ret (.con (.bl false)))) .nil) (s1 (.ret (.and (.bf .all (c1 (.comp 1 [1] (.v 0) .seq (c1 v0) .nil (.call o40 (c2 v0 v1))))) (.call q21 (c1 v0))))))
def q60:Sm:=(s1 (.iff (.not (.call a11 (c1 v0))) (s1 (.rais 0)) .nil))
def i80:Sm:=(s1 (.iff (.or (.not (.call j70 (c2 v1 (.idx v0 n0)))) (.cmp .eq (.bf .len (c1 v1)) n0)) (s1 (.rais 2)) .nil))
def v00:Sm:=(.seq (.set (p2 (.v 2) (.v 3)) v0) (.seq (.set (.v 4) (.lrng false (c1 v2))) (.seq (.fr (.v 5) .seq (c1 v1) (.seq (.set (p2 (.v 6) (.v 7)) (.idx v3 v5)) (.seq (.set (.v 8) (.idx v4 v6)) (.seq (.set (.v 9) (.idx v4 v7)) (s1 (.set (.v 4) (.comp 1 [8,9] (.v 0) .seq (c1 v4) .nil (.ite (.cmp .eq v0 v2) v1 v0)))))))) (s1 (.ret v4)))))
def m90:Sm:=(.seq (.set (.v 3) (.call E50 (c2 v0 v1))) (s1 (.ret (.bf .all (c1 (.comp 1 [2,3] (.v 0) .seq (c1 v2) .nil (.cmp .eq (.idx v2 v0) (.idx v2 (.idx v1 n0)))))))))
def q70:Sm:=(.seq (.iff (.or (.not (.isi .tuple v0)) (.cmp .ne (.bf .len (c1 v0)) n2)) (s1 (.ret (.con (.bl false)))) .nil) (.seq (.set (p2 (.v 1) (.v 2)) v0) (.seq (.iff (.or (.not (.call j60 (c1 v1))) (.not (.call j60 (c1 v2)))) (s1 (.ret (.con (.bl false)))) .nil) (.seq (.iff (.or (.not (.ch .le .le n1 v2 (.gint "MOST_BOTTOM" 1000))) (.not (.ch .le .le n0 v1 v2))) (s1 (.ret (.con (.bl false)))) .nil) (s1 (.ret (.cmp .eq (.call f90 (c2 v1 v2)) n1)))))))
def k80:Sm:=(.seq (.exp (.call f10 (c1 v0))) (.seq (.iff (.or (.not (.isi .tuple v1)) (.cmp .ne (.bf .len (c1 v1)) (.bf .len (c1 (.idx v0 n1))))) (s1 (.ret (.con (.bl false)))) .nil) (s1 (.ret (.bf .all (c1 (.comp 1 [] (.v 0) .seq (c1 v1) .nil (.call q40 (c1 v0)))))))))
def i90:Sm:=(s1 (.iff (.not (.call q40 (c1 v0))) (s1 (.rais 5)) .nil))
def h20:Sm:=(s1 (.iff (.not (.call s80 (c2 v0 v1))) (s1 (.rais 6)) .nil))
def o50:Sm:=(.seq (.set (.v 1) (cX (.lst [(.tup [])]) (-0))) (.seq (.fr (.v 2) .rng1 (c1 (.bf .len (c1 (.idx v0 n1)))) (s1 (.set (.v 1) (.bin .add v1 (.comp 1 [2] (.v 0) .seq (c1 v1) .nil (.bin .add v0 (.tup (c1 v1)))))))) (s1 (.ret (.bf .sorted (c1 v1))))))
def q80:Sm:=(.seq (.exp (.call f10 (c1 v0))) (.seq (.exp (.call c60 (c2 v0 v1))) (s1 (.ret (.comp 1 [0,1] (.v 0) .seq (c1 (.call E60 (c1 v0))) (c1 (.call w30 (c3 v1 v0 v2))) v0)))))
def J20:Sm:=(.seq (.set (.v 2) (.call k60 (c2 v0 v1))) (.seq (.set (.v 3) (.bin .mul (cX (.lst [(.int 0)]) (-0)) (.bin .add (.bf .len (c1 (.idx v0 n1))) n1))) (.seq (.fr (.v 4) .seq (c1 v2) (s1 (.augi 3 (.bf .len (c1 v4)) n1))) (s1 (.ret v3)))))
def n00:Sm:=(.seq (.exp (.call f10 (c1 v0))) (.seq (.exp (.call f10 (c1 v2))) (.seq (.exp (.call c60 (c2 v0 v1))) (s1 (.exp (.call c60 (c2 v2 v3)))))))
def q90:Sm:=(.seq (.exp (.call m70 (c4 v0 v1 v2 v3))) (s1 (.ret (.cmp .eq (.call s90 (c2 v0 v1)) (.call s90 (c2 v2 v3))))))
def J30:Sm:=(.seq (.set (.v 2) (.call s90 (c2 v0 v1))) (.seq (.set (.v 3) (.bin .mul (cX (.lst [(.int 0)]) (-0)) (.bf .len (c1 v2)))) (.seq (.fr (p2 (.v 4) (.v 5)) .enum (c1 v2) (.seq (.set (.v 3) (.comp 2 [] (p2 (.v 0) (.v 1)) .zip (c2 v3 (.bin .add (cX (.lst [(.int 0)]) (-0)) v3)) .nil (.bin .sub v0 v1))) (s1 (.augi 3 v4 v5)))) (s1 (.ret v3)))))
def v40:Sm:=(.seq (.exp (.call f10 (c1 v0))) (.seq (.exp (.call c60 (c2 v0 v1))) (.seq (.exp (.call p30 (c1 v2))) (.seq (.set (.v 3) (cX (.tup [(.int 0),(.int 1)]) (-0))) (.seq (.fr (.v 4) .seq (c1 (.rev (.call t00 (c2 v0 v1)))) (s1 (.set (.v 3) (.call G31 (c2 (.call q11 (c2 v3 v2)) (.tup (c2 v4 n1))))))) (s1 (.ret v3)))))))
def n10:Sm:=(.seq (.exp (.call m70 (c4 v0 v1 v2 v3))) (.seq (.set (.v 5) (.call e20 (c3 v0 v1 v4))) (.seq (.set (.v 6) (.call e20 (c3 v2 v3 v4))) (.seq (.iff (.call B80 (c2 v6 v5)) (s1 (.ret n1)) .nil) (s1 (.ret (.ite (.call B80 (c2 v5 v6)) (.neg n1) n0)))))))
def k90:Sm:=(.seq (.set (.v 1) n1) (.seq (.fr (.v 2) .seq (c1 v0) (s1 (.aug .mul 1 (.idx v2 n1)))) (s1 (.ret v1))))
def C00:Sm:=(.seq (.set (.v 2) n1) (.seq (.fr (p2 (.v 3) (p2 (.v 4) (.v 5))) .enum (c1 v0) (s1 (.aug .mul 2 (.ite (.cmp .mem v3 v1) v4 (.bin .sub v5 v4))))) (s1 (.ret v2))))
def n20:Sm:=(s1 (.ret (.call y50 (c2 (.bf .sum (c1 (.comp 1 [0] (.v 0) .seq (c1 v1) .nil (.call P20 (c2 v1 v0))))) (.call t10 (c1 v0))))))
def U70:Sm:=(.seq (.exp (.call m60 (c2 v0 v1))) (.seq (.exp (.call c60 (c2 v0 v2))) (s1 (.ret (.call m80 (c2 v1 (.call k60 (c2 v0 v2))))))))
def f40:Sm:=(.seq (.iff (.cmp .lt v1 (.bf .len (c1 v0))) (s1 (.ret (.idx v0 v1))) .nil) (s1 (.ret n0)))
def i10:Sm:=(.seq (.set (.v 2) (.call p40 (c2 v0 v1))) (.seq (.iff (.cmp .ge v2 (.bin .pow (.con (.int 10)) (.con (.int 18)))) (s1 (.ret (.lst (c2 (.bin .sub v2 (.bin .pow (.con (.int 10)) (.con (.int 18)))) (.con (.bl true)))))) .nil) (s1 (.ret (.lst (c2 (.bin .mod v2 (.con (.int 2147483647))) (.con (.bl false))))))))
def r00:Sm:=(.seq (.iff (.zget 0 1) (.seq (.set (.v 2) (.bin .mod (.zget 0 0) v1)) (.seq (.zset 0 (.bin .fdiv (.zget 0 0) v1)) (s1 (.ret v2)))) .nil) (.seq (.zset 0 (.bin .mod (.bin .add (.bin .mul (.zget 0 0) (.con (.int 48271))) (.con (.int 29))) (.con (.int 2147483647)))) (.seq (.set (.v 3) (.bin .mod (.bin .add (.bin .add (.bin .mul (.zget 0 0) (.zget 0 0)) (.bin .mul (.con (.int 39373)) (.zget 0 0))) (.con (.int 7))) (.con (.int 2147483629)))) (.seq (.set (.v 3) (.bin .mod (.bin .add (.bin .mul v3 v3) (.bin .mul (.con (.int 16807)) v3)) (.con (.int 2147483587)))) (s1 (.ret (.bin .mod (.bin .fdiv v3 (.con (.int 8))) v1)))))))
def v50:Sm:=(.seq (.set (.v 2) (.idx (cX (.lst [(.int 6),(.int 5),(.int 4),(.int 3),(.int 4),(.int 5),(.int 2),(.int 1)]) (-0)) (.call b00 (c2 v0 (.con (.int 8)))))) (.seq (.set (.v 3) (.lst .nil)) (.seq (.iff (.and (.cmp .gt v2 n1) (.cmp .gt (.call b00 (c2 v0 (.con (.int 5)))) n0)) (s1 (.set (.v 3) (.comp 1 [0] (.v 0) .rng2 (c2 n1 v2) .nil (.tup (c2 (.call b00 (c2 v1 v0)) v0))))) .nil) (.seq (.fr (.v 4) .rng1 (c1 (.bin .mul (.call b00 (c2 v0 (.bin .add v1 n1))) (.bf .int (c1 (.cmp .gt v2 n1))))) (.seq (.set (.v 5) (.call b00 (c2 v0 v2))) (.seq (.set (.v 6) (.bin .mod (.bin .add (.bin .add v5 n1) (.call b00 (c2 v0 (.bin .sub v2 n1)))) v2)) (s1 (.app 3 (.tup (c2 (.bf .min (c2 v5 v6)) (.bf .max (c2 v5 v6))))))))) (s1 (.ret (.tup (c2 v2 (.bf .tuple (c1 (.bf .sorted (c1 (.sl v3 .nil (c1 v1))))))))))))))
def l00:Sm:=(.seq (.set (.v 2) (.call b00 (c2 v0 (.con (.int 4))))) (.seq (.iff (.or (.cmp .lt v2 n2) (.cmp .eq (.idx v1 n0) n1)) (s1 (.ret (.lrng true (c1 (.idx v1 n0))))) .nil) (.seq (.iff (.cmp .eq v2 n2) (.seq (.set (.v 3) (.call b00 (c2 v0 (.idx v1 n0)))) (s1 (.ret (.bf .tuple (c1 (.bf .sorted (c1 (.lst (c2 v3 (.bin .mod (.bin .add (.bin .add v3 n1) (.call b00 (c2 v0 (.bin .sub (.idx v1 n0) n1)))) (.idx v1 n0))))))))))) .nil) (s1 (.ret (.orT (.bf .tuple (c1 (.comp 1 [0] (.v 0) .rng1 (c1 (.idx v1 n0)) (c1 (.cmp .eq (.call b00 (c2 v1 n2)) n1)) v0))) (.tup (c1 (.bin .sub (.idx v1 n0) n1)))))))))
def l10:Sm:=(.seq (.set (p2 (.v 2) (.v 3)) (.tup (c2 v0 v1))) (.seq (.whl (.cmp .ne v3 n0) (s1 (.set (p2 (.v 2) (.v 3)) (.tup (c2 v3 (.bin .mod v2 v3)))))) (s1 (.ret (.tup (c2 (.bin .fdiv v0 v2) (.bin .fdiv v1 v2)))))))
def l20:Sm:=(.seq (.set (.v 1) (cX (.lst [(.tup [(.int 1),(.int 2)]),(.tup [(.int 2),(.int 3)]),(.tup [(.int 1),(.int 3)]),(.tup [(.int 3),(.int 4)]),(.tup [(.int 9),(.int 10)]),(.tup [(.int 0),(.int 1)]),(.tup [(.int 1),(.int 1)]),(.tup [(.int 1),(.int 1000)]),(.tup [(.int 999),(.int 1000)])]) (-0))) (.seq (.set (.v 2) (.call b00 (c2 v0 (.con (.int 16))))) (.seq (.iff (.cmp .lt v2 (.con (.int 9))) (s1 (.ret (.idx v1 v2))) .nil) (.seq (.set (.v 3) (.bin .add n1 (.call b00 (c2 v0 (.idx (cX (.lst [(.int 12),(.int 1000)]) (-0)) (.call b00 (c2 v0 n2))))))) (s1 (.ret (.call t20 (c2 (.call b00 (c2 v0 (.bin .add v3 n1))) v3))))))))
def i20:Sm:=(.seq (.set (.tup (.cons (.v 3) (.cons (.v 4) (.cons (.v 5) .nil)))) (.tup (c3 (.call e20 (c3 v0 v1 v2)) (.call t00 (c2 v0 v1)) (.call s90 (c2 v0 v1))))) (.seq (.iff (.cmp .ne (.call q31 (c3 v0 (.bin .mul (.tup (c1 v2)) (.bf .len (c1 (.idx v0 n1)))) v1)) v3) (s1 (.ret (.con (.bl false)))) .nil) (.seq (.set (.v 6) (.call k60 (c2 v0 v1))) (.seq (.iff (.cmp .ne (.comp 1 [6] (.v 0) .rng1 (c1 (.bf .len (c1 v5))) .nil (.bf .len (c1 (.comp 1 [0] (.v 0) .seq (c1 v1) (c1 (.cmp .eq (.bf .len (c1 v0)) v1)) v0)))) v5) (s1 (.ret (.con (.bl false)))) .nil) (.seq (.iff (.or (.cmp .ne (.bf .sum (c1 v4)) (.idx v5 (.neg n1))) (.or (.cmp .ne (.idx v4 n0) (.idx v5 n0)) (.cmp .ne (.bf .len (c1 v4)) (.bf .len (c1 v5))))) (s1 (.ret (.con (.bl false)))) .nil) (.seq (.iff (.or (.cmp .ne (.call e20 (c3 v0 v1 (cX (.tup [(.int 1),(.int 1)]) (-0)))) (.tup (c2 (.idx v5 (.neg n1)) n1))) (.cmp .ne (.call e20 (c3 v0 v1 (cX (.tup [(.int 0),(.int 1)]) (-0)))) (.tup (c2 (.idx v5 n0) n1)))) (s1 (.ret (.con (.bl false)))) .nil) (s1 (.ret (.cmp .is (.call q50 (c4 v0 v1 v0 v1)) (.con (.bl true)))))))))))
def A91:Sm:=(.seq (.fr (.v 1) .rng1 (c1 (.bf .max (c2 n1 (.bf .min (c2 (.bf .len (c1 v0)) (.con (.int 3))))))) (.seq (.newz 2 w50 (c2 v0 v1)) (.seq (.set (p2 (.v 3) (.v 4)) (.tup (c2 (.call u70 (c2 v2 (.con (.int 7)))) (.call u70 (c2 v2 (.con (.int 4))))))) (.seq (.set (p2 (.v 5) (.v 6)) (.tup (c2 (.call k70 (c2 v2 v3)) (.call k70 (c2 v2 v4))))) (.seq (.set (.v 7) (.call t30 (c1 v2))) (.seq (.iff (.not (.call w60 (c3 v3 v5 v7))) (s1 (.ret (.con (.bl false)))) .nil) (.seq (.set (.v 8) (.call q50 (c4 v3 v5 v4 v6))) (.seq (.iff (.cmp .ne v8 (.and (.cmp .eq (.bf .len (c1 (.idx v3 n1))) (.bf .len (c1 (.idx v4 n1)))) (.cmp .eq (.call t00 (c2 v3 v5)) (.call t00 (c2 v4 v6))))) (s1 (.ret (.con (.bl false)))) .nil) (.seq (.set (.v 9) (.call w40 (c5 v3 v5 v4 v6 v7))) (.seq (.set (.v 10) (.cmp .eq (.call e20 (c3 v3 v5 v7)) (.call e20 (c3 v4 v6 v7)))) (s1 (.iff (.or (.and v8 (.cmp .ne v9 n0)) (.cmp .ne (.cmp .eq v9 n0) v10)) (s1 (.ret (.con (.bl false)))) .nil)))))))))))) (s1 (.ret (.con (.bl true)))))
def rows:List Row:=[(⟨"common_divisor",["one","other"],top 7,["one","other"],g00,false⟩:Row),
 (⟨"lowest",["top","bottom"],top 8,["top","bottom","divisor"],I90,false⟩:Row),
 (⟨"plus",["one","other"],top 9,["one","other"],q41,false⟩:Row),
 (⟨"times",["one","other"],top 10,["one","other"],U50,false⟩:Row),
 (⟨"is_less",["one","other"],top 11,["one","other"],B90,false⟩:Row),
 (⟨"is_whole",["thing"],top 15,["thing"],E70,false⟩:Row),
 (⟨"is_below",["thing","many"],top 16,["thing","many"],u80,false⟩:Row),
 (⟨"is_tie",["thing","many"],top 17,["thing","many","a","b"],J00,false⟩:Row),
 (⟨"are_ties",["thing","many"],top 18,["thing","many"],u90,false⟩:Row),
 (⟨"is_web",["thing"],top 19,["thing","many","ties"],J10,false⟩:Row),
 (⟨"rises",["things"],top 20,["things"],U60,false⟩:Row),
 (⟨"is_rising_below",["thing","many"],top 21,["thing","many"],f20,false⟩:Row),
 (⟨"check_web",["thing"],top 22,["thing"],q60,false⟩:Row),
 (⟨"check_places",["web","thing"],top 23,["web","thing"],i80,false⟩:Row),
 (⟨"marks_by",["web","lot"],top 24,["web","lot","many","ties","marks","number","a","b","kept","gone"],v00,false⟩:Row),
 (⟨"are_joined",["web","lot","places"],top 25,["web","lot","places","marks"],m90,false⟩:Row),
 (⟨"is_chance",["thing"],top 28,["thing","top","bottom"],q70,false⟩:Row),
 (⟨"are_chances",["web","thing"],top 29,["web","thing"],k80,false⟩:Row),
 (⟨"check_chance",["thing"],top 30,["thing"],i90,false⟩:Row),
 (⟨"check_chances",["web","thing"],top 31,["web","thing"],h20,false⟩:Row),
 (⟨"all_lots",["web"],top 33,["web","lots","number"],o50,false⟩:Row),
 (⟨"good_lots",["web","places"],top 34,["web","places"],q80,false⟩:Row),
 (⟨"counts",["web","places"],top 36,["web","places","lots","found","lot"],J20,false⟩:Row),
 (⟨"check_both",["web","places","other","more"],top 37,["web","places","other","more"],n00,false⟩:Row),
 (⟨"are_alike",["web","places","other","more"],top 38,["web","places","other","more"],q90,false⟩:Row),
 (⟨"powers",["web","places"],top 39,["web","places","numbers","found","k","many"],J30,false⟩:Row),
 (⟨"share_at",["web","places","chance"],top 40,["web","places","chance","found","number"],v40,false⟩:Row),
 (⟨"greater_at",["web","places","other","more","chance"],top 41,["web","places","other","more","chance","first","second"],n10,false⟩:Row),
 (⟨"all_bottoms",["chances"],top 43,["chances","found","chance"],k90,false⟩:Row),
 (⟨"lot_top",["chances","lot"],top 44,["chances","lot","found","number","top","bottom"],C00,false⟩:Row),
 (⟨"lots_share",["chances","lots"],top 45,["chances","lots"],n20,false⟩:Row),
 (⟨"share",["web","chances","places"],top 46,["web","chances","places"],U70,false⟩:Row),
 (⟨"_law_cell_at",["_law_script","_law_k"],top 48,["_law_script","_law_k"],f40,false⟩:Row),
 (⟨"_law_state",["_law_script","_law_k"],top 49,["_law_script","_law_k","_law_cell"],i10,false⟩:Row),
 (⟨"_law_take",["_law_state_here","_law_many"],top 50,["_law_state_here","_law_many","_law_found","_law_stirred"],r00,false⟩:Row),
 (⟨"_law_web",["_law_state_here","_law_most"],top 51,["_law_state_here","_law_most","_law_many","_law_ties","_law_turn","_law_one","_law_other"],v50,false⟩:Row),
 (⟨"_law_places",["_law_state_here","_law_web_here"],top 52,["_law_state_here","_law_web_here","_law_way","_law_one"],l00,false⟩:Row),
 (⟨"_law_lowest",["_law_top","_law_bottom"],top 53,["_law_top","_law_bottom","_law_one","_law_other"],l10,false⟩:Row),
 (⟨"_law_chance",["_law_state_here"],top 54,["_law_state_here","_law_some","_law_way","_law_bottom"],l20,false⟩:Row),
 (⟨"_law_right",["_law_web_here","_law_places_here","_law_chance_here"],top 55,["_law_web_here","_law_places_here","_law_chance_here","_law_told","_law_numbers","_law_some","_law_every"],i20,false⟩:Row),
 (⟨"law",["_law_script"],top 56,["_law_script","_law_k","_law_state_here","_law_web_here","_law_other","_law_places_here","_law_more","_law_chance_here","_law_alike","_law_less","_law_same"],A91,false⟩:Row)]
def T:List Df:=[(Df.code 2 2 g00:Df),(Df.code 2 3 I90:Df),(Df.code 2 2 q41:Df),(Df.code 2 2 U50:Df),(Df.code 2 2 B90:Df),(Df.code 1 1 E70:Df),(Df.code 2 2 u80:Df),(Df.code 2 4 J00:Df),(Df.code 2 2 u90:Df),(Df.code 1 3 J10:Df),(Df.code 1 1 U60:Df),(Df.code 2 2 f20:Df),(Df.code 1 1 q60:Df),(Df.code 2 2 i80:Df),(Df.code 2 10 v00:Df),(Df.code 3 4 m90:Df),(Df.code 1 3 q70:Df),(Df.code 2 2 k80:Df),(Df.code 1 1 i90:Df),(Df.code 2 2 h20:Df),(Df.code 1 3 o50:Df),(Df.code 2 2 q80:Df),(Df.code 2 5 J20:Df),(Df.code 4 4 n00:Df),(Df.code 4 4 q90:Df),(Df.code 2 6 J30:Df),(Df.code 3 5 v40:Df),(Df.code 5 7 n10:Df),(Df.code 1 3 k90:Df),(Df.code 2 6 C00:Df),(Df.code 2 2 n20:Df),(Df.code 3 3 U70:Df),(Df.code 2 2 f40:Df),(Df.code 2 3 i10:Df),(Df.code 2 4 r00:Df),(Df.code 2 7 v50:Df),(Df.code 2 4 l00:Df),(Df.code 2 4 l10:Df),(Df.code 1 4 l20:Df),(Df.code 3 7 i20:Df),(Df.code 1 11 A91:Df)]
theorem H82:tabOf rows=T:=rfl
def cn:List Str:=["NoWeb","NoWeb","NoPlaces","NoWeb","NoWeb","NoChance","NoChances","NoWeb","NoWeb","NoWeb","NoWeb","NoWeb"]
end K3
namespace K3
open Q
open L2 (D)
def h02:D->Bool
 |.int _=>true|_=>false
theorem l30(k:Nat)(x:D)(z:Z):b40 T (k + 3) j60 [.d x] z=some (.ok (.d (.bl (h02 x))) z):=by
 cases z <;> cases x <;> rfl
def c80(x:D)(m:Int):Bool:=match x with
 |.int i=>decide (0<=i)&&decide (i < m)|_=>false
theorem r10(k:Nat)(x:D)(m:Int)(z:Z):b40 T (k + 4) o40 [.d x,.d (.int m)] z=some (.ok (.d (.bl (c80 x m))) z):=by
 refine W.ok (k50 (ps:=2) (ns:=2) (b:=u80) rfl rfl (-0) (Wo (l30 (k:=k) x z) ?_))
 cases x with
 |int i=>exact ib (b:=decide (0<=i)) (λh=>sb (show decide (i < m)=(decide (0<=i)&&decide (i < m)) by rw[h];rfl)) λh=>sb (show false=(decide (0<=i)&&decide (i < m)) by rw[h];rfl)|_=>exact sb rfl
def q51(x:D)(m:Int):Bool:=match x with
 |.tup [a,b]=>c80 a m&&(c80 b m&&(match a,b with
  |.int i,.int j=>decide (i < j)
  |_,_=>false))
 |_=>false
theorem j80(h:c80 x m=true):∃ i,x=.int i/\0<=i/\i < m:=by
 cases x with
 |int i =>
  unfold c80 at h;rw[Á,decide_eq_true_eq,decide_eq_true_eq] at h;exact⟨i,rfl,h⟩
 |_=>cases h
theorem q61(k:Nat)(x:D)(m:Int)(z:Z):b40 T (k + 5) a01 [.d x,.d (.int m)] z=some (.ok (.d (.bl (q51 x m))) z):=by
 refine W.ok (k50 (ps:=2) (ns:=4) (b:=J00) rfl rfl (-0) ?_)
 cases x with
 |tup l =>
  match l with
  |[a,b] =>
   refine Wo (r10 k a m z) (ib (b:=c80 a m) (λh1=>Wo (r10 k b m z) (ib (b:=c80 b m) (λh2=>?_) λh=>?_)) λh=>?_)
   ·obtain⟨i,rfl,_⟩:=j80 h1;obtain⟨j,rfl,_⟩:=j80 h2;exact sb (show decide (i < j)=(c80 (.int i) m&&(c80 (.int j) m&&decide (i < j))) by rw[h1,h2];rfl)
   ·exact sb (show false=(c80 a m&&(c80 b m&&_)) by rw[h1,h];rfl)
   ·exact sb (show false=(c80 a m&&_) by rw[h];rfl)
  |[]=>exact sb rfl|[_]=>exact sb rfl|_::_::_::_=>exact sb rfl
 |_=>exact sb rfl
theorem E80(l:List D)(p:D->Bool):bfD .all [.lst (l.map λx=>D.bl (p x))]=some (.d (.bl (l.all p))):=by
 have h:(l.map λx=>D.bl (p x)).mapM asB=some (l.map p):=by
  induction l with
  |nil=>rfl
  |cons x r ih =>
   rw[Ç9,mapM_cons,ih];rfl
 show((l.map λx=>D.bl (p x)).mapM asB).map _=_;rw[h];simp[all_map]
theorem a21(l:List D)(n:Nat):cutD l (some (n:Int)) none=l.drop n:=by
 have h1:HT.sIx l.length 0 (some (n:Int))=min n l.length:=HT.g91 l.length 0 n;unfold cutD;rw[h1];show((l.drop (min n l.length)).take (l.length - min n l.length))=_;rcases Nat.le_total n l.length with h | h
 ·rw[Ù7 h,È6 (by rw[Í7];omega)]
 ·rw[Ø1 h,drop_length,List.take_nil,List.drop_of_length_le h]
theorem y60:∀ a b:List D,(q00 a b).length<=a.length
 |[],_=>È _|_::_,[]=>Ä3 _|_::r,_::q=>Ø0 (y60 r q)
theorem J40:∀ {a b:List D}{d:D},d∈q00 a b->∃ x∈a,∃ y∈b,d=.tup [x,y]
 |x::r,y::q,d,h=>by
  rcases ü.mp h with h | h
  ·exact⟨x,Ð,y,Ð,h⟩
  ·obtain⟨u,hu,v,hv,e⟩:=J40 h;exact⟨u,Ì _ hu,v,Ì _ hv,e⟩
def leD:D->Bool
 |.tup [.tup a,.tup b]=>(match S20 a,S20 b with
  |some ns,some ms=>HT.leB ns ms
  |_,_=>false)
 |_=>false
def P30(l:List D):Bool:=(q00 l (l.drop 1)).all leD
def P40(x:D)(m:Int):Bool:=match x with
 |.tup l=>decide (l.length<=8)&&(l.all (λt=>q51 t m)&&P30 l)|_=>false
theorem P50(h:q51 x m=true):∃ i j,x=.tup [.int i,.int j]/\0<=i/\i < j/\j < m:=by
 cases x with
 |tup l =>
  match l,h with
  |[a,b],h =>
   unfold q51 at h;rw[Á,Á] at h;obtain⟨h1,h2,h3⟩:=h;obtain⟨i,rfl,i1,i2⟩:=j80 h1;obtain⟨j,rfl,j1,j2⟩:=j80 h2;exact⟨i,j,rfl,i1,of_decide_eq_true h3,j2⟩
 |_=>cases h
theorem C10(h:n<=1000):n<=most:=Ò h (-0)
theorem U80(k:Nat)(x:D)(m:Int)(z:Z):b40 T (k + 6) E40 [.d x,.d (.int m)] z=some (.ok (.d (.bl (P40 x m))) z):=by
 refine W.ok (k50 (ps:=2) (ns:=2) (b:=u90) rfl rfl (-0) ?_)
 cases x with
 |tup l =>
  refine ib (b:=decide ((8:Int) < (l.length:Int))) (λh=>?_) λh=>?_
  ·refine sb (show false=(decide (l.length<=8)&&_) from ?_);rw[decide_eq_true_eq] at h;rw[decide_eq_false ∅];rfl
  ·rw[decide_eq_false_iff_not] at h;have h8:l.length<=8:=by omega
   refine ip (C10 ∅) (q01 (λx=>.bl (q51 x m)) (λx _=>Wo (q61 k x m z) ⟨rfl,rfl⟩) ?_)
   refine(a00 (E80 l λx=>q51 x m) ?_ :);refine ib (b:=!l.all λx=>q51 x m) (λh=>?_) λh2=>?_
   ·exact sb (show false=(decide (l.length<=8)&&(l.all (λt=>q51 t m)&&P30 l)) by rw[ô] at h;rw[h,Ì0,Bool.and_false])
   ·rw[Î3] at h2;have ha:=ï.mp h2;have e1:cutD l (some 1) none=l.drop 1:=a21 l 1;refine ip (c:=(q00 l (cutD l (some 1) none)).length<=most) (Ò (y60 _ _) (C10 ∅)) (q01 (λx=>.bl (leD x)) (λx hx=>?_) (a00 (E80 _ leD) ?_ :))
    ·obtain⟨u,hu,v,hv,rfl⟩:=J40 hx;rw[e1] at hv;obtain⟨i,j,rfl,_⟩:=P50 (ha u hu);obtain⟨i',j',rfl,_⟩:=P50 (ha v (List.mem_of_mem_drop hv));exact⟨rfl,rfl⟩
    ·refine sb (b:=(q00 l (cutD l (some 1) none)).all leD) ?_;show _=(decide (l.length<=8)&&(l.all (λt=>q51 t m)&&P30 l));rw[e1,h2,decide_eq_true h8,Ä6,Ä6];rfl
 |_=>exact sb rfl
def w02(a t:D):Bool:=match a with
 |.int m=>decide (1<=m)&&(decide (m<=6)&&P40 t m)|_=>false
def B01(x:D):Bool:=match x with
 |.tup [a,t]=>w02 a t|_=>false
theorem q71(k:Nat)(x:D)(z:Z):b40 T (k + 7) a11 [.d x] z=some (.ok (.d (.bl (B01 x))) z):=by
 refine W.ok (k50 (ps:=1) (ns:=3) (b:=J10) rfl rfl (-0) ?_)
 cases x with
 |tup l =>
  match l with
  |[a,t] =>
   refine Wo (l30 (k + 3) a _) ?_;cases a with
   |int m =>
    refine ib (b:=decide (1<=m)) (λg1=>ib (b:=decide (m<=6)) (λg2=>Wo (U80 k t m _) ?_) λg2=>?_) λg1=>?_
    ·exact sb (show P40 t m=(decide (1<=m)&&(decide (m<=6)&&P40 t m)) by rw[g1,g2];rfl)
    ·exact sb (show false=(decide (1<=m)&&(decide (m<=6)&&P40 t m)) by rw[g1,g2];rfl)
    ·exact sb (show false=(decide (1<=m)&&(decide (m<=6)&&P40 t m)) by rw[g1];rfl)
   |_=>exact sb rfl
  |[]=>exact sb rfl|[_]=>exact sb rfl|_::_::_::_=>exact sb rfl
 |_=>exact sb rfl
theorem f60(k:Nat)(z:Z)(h:B01 x=true):b40 T (k + 8) f10 [.d x] z=some (.ok (.d .non) z) :=
 W.ok (k50 (ps:=1) (ns:=1) (b:=q60) rfl rfl (-0) (Wo (q71 k x z) (ie (b:=!B01 x) (by rw[h];rfl) (sd rfl))))
theorem e61(hj:0 < j):u50 .mod (.int i) (.int j)=some (.d (.int (i % j))):=by
 show(if 0 < j then some (S.d (.int (i % j))) else none)=_;rw[if_pos hj]
def GT(n:Nat)(a b:Int):Prop:=0<=b/\((∃ k:Nat,n=2 * k + 1/\b < 2 ^ k)∨∃ k:Nat,n=2 * k/\b < a/\a < 2 ^ k)
theorem GT.step(h:GT n a b)(hb:0 < b):∃ m,m < n/\GT m b (a % b):=by
 obtain⟨h0,h⟩:=h;have r0:=Ò5 a (show b≠0 by omega)
 have r1:=emod_lt_of_pos a hb;rcases h with ⟨k,rfl,hk⟩ | ⟨k,rfl,hba,hk⟩
 ·exact⟨2 * k,Ø2 _,r0,.inr ⟨k,rfl,r1,hk⟩⟩
 ·cases k with
  |zero=>simp at hk;omega
  |succ k =>
   refine⟨2 * k + 1,by omega,r0,.inl ⟨k,rfl,?_⟩⟩
   have e:=Int.emod_add_mul_ediv a b;have q1:1<=a / b:=Int.le_ediv_of_mul_le hb ∅
   have:b * 1<=b * (a / b):=Ø9 q1 ∅
   have h2:(2:Int) ^ (k + 1)=2 * 2 ^ k:=by rw[Á1,Ë7]
   rw[h2] at hk;omega
theorem q81(a b:Int):gcd b (a % b)=gcd a b:=by
 rw[Int.emod_def,Int.gcd_sub_mul_left_right,Int.gcd_comm]
def big(b:Int):Prop:=b < 2 ^ 4000
theorem U90(h0:0<=b)(h:big b):b.natAbs < D80:=by
 have h:b < 2 ^ 4000:=h;have e:((2 ^ 4000:Nat):Int)=2 ^ 4000:=by rw[Ò4];rfl
 show b.natAbs < 2 ^ 4000;omega
theorem t40(h:b<=2 ^ 64):big b:=Õ0 h (-0)
theorem j90(k:Nat)(a b:Int)(z:Z)(h0:0 < b)(h1:big b):b40 T (k + 3) f90 [.d (.int a),.d (.int b)] z=some (.ok (.d (.int (gcd a b))) z):=by
 refine W.ok (k50 (ps:=2) (ns:=2) (b:=g00) rfl rfl (-0) (g72 (λn ρ z1=>z1=z/\∃ c d:Int,ρ=[some (.d (.int c)),some (.d (.int d))]/\GT n c d/\gcd c d=gcd a b/\(d=0->0<=c)) (2 * 4000 + 1) ⟨rfl,a,b,rfl,⟨Ë8 h0,.inl ⟨4000,rfl,h1⟩⟩,rfl,λh=>by omega⟩ (-0) ?_))
 rintro n ρ z1 ⟨rfl,c,d,rfl,g,hg,hc⟩;refine ib (b:=decide (0 < d)) (λhd=>?_) λhd=>?_
 ·rw[decide_eq_true_eq] at hd;obtain⟨m,hm,g'⟩:=g.step hd;refine(a00 (e61 (i:=c) hd) ?_ :);exact⟨m,hm,rfl,d,c % d,rfl,g',(q81 c d).trans hg,λ_=>Int.le_of_lt hd⟩
 ·rw[decide_eq_false_iff_not] at hd;have hz:d=0:=by have:=g.1;omega
  subst hz;rw[Int.gcd_zero_right] at hg;refine sd (s:=.d (.int c)) ?_;rw[← hg,show((c.natAbs:Nat):Int)=c by have:=hc rfl;omega]
def chI(t b:Int):Bool:=(decide (1<=b)&&decide (b<=1000))&&((decide (0<=t)&&decide (t<=b))&&(((gcd t b:Nat):Int) == 1))
def chP:D->D->Bool
 |.int t,.int b=>chI t b|_,_=>false
def chD:D->Bool
 |.tup [d,e]=>chP d e|_=>false
theorem a31(h:¬ (1<=u/\u<=1000/\0<=t/\t<=u)):false=chI t u:=by
 unfold chI;refine Eq.symm ?_;rw[Bool.eq_false_iff];intro q;rw[Á,Á,Á,Á,decide_eq_true_eq,decide_eq_true_eq,decide_eq_true_eq,decide_eq_true_eq] at q;exact h ⟨q.1.1,q.1.2,q.2.1.1,q.2.1.2⟩
theorem w70(k:Nat)(x:D)(z:Z):b40 T (k + 4) q40 [.d x] z=some (.ok (.d (.bl (chD x))) z):=by
 refine W.ok (k50 (ps:=1) (ns:=3) (b:=q70) rfl rfl (-0) ?_)
 cases x with
 |tup l =>
  match l with
  |[a,b] =>
   refine Wo (l30 k a z) ?_;cases a with
   |int t =>
    refine Wo (l30 k b z) ?_;cases b with
    |int u =>
     refine ib (b:=decide (1<=u)) (λh1=>ib (b:=!decide (u<=1000)) (λh2=>?_) λh2=>ib (b:=decide (0<=t)) (λh3=>ib (b:=!decide (t<=u)) (λh4=>?_) λh4=>?_) λh3=>?_) λh1=>?_
     ·exact sb (a31 λq=>by rw[ô,decide_eq_false_iff_not] at h2;exact h2 q.2.1)
     ·exact sb (a31 λq=>by rw[ô,decide_eq_false_iff_not] at h4;exact h4 q.2.2.2)
     ·rw[Î3,decide_eq_true_eq] at h2 h4;rw[decide_eq_true_eq] at h1 h3;refine Wo (j90 k t u z ∅ (t40 ∅)) (sb (show(((gcd t u:Nat):Int) == 1)=chI t u from ?_))
      unfold chI;rw[decide_eq_true h1,decide_eq_true h2,decide_eq_true h3,decide_eq_true h4];rfl
     ·exact sb (a31 λq=>by rw[decide_eq_false_iff_not] at h3;exact h3 q.2.2.1)
     ·exact sb (a31 λq=>by rw[decide_eq_false_iff_not] at h1;exact h1 q.1)
    |_=>exact sb rfl
   |_=>exact sb rfl
  |[]=>exact sb rfl|[_]=>exact sb rfl|_::_::_::_=>exact sb rfl
 |_=>exact sb rfl
def h32(n:Nat):D->Bool
 |.tup l=>(l.length == n)&&l.all chD|_=>false
theorem q91(h:B01 x=true):∃ m ts,x=.tup [.int m,.tup ts]/\1<=m/\m<=6/\ts.length<=8/\(∀ t∈ts,q51 t m=true)/\P30 ts=true:=by
 cases x with
 |tup l =>
  match l,h with
  |[a,t],h =>
   unfold B01 w02 at h;cases a with
   |int m =>
    rw[Á,Á,decide_eq_true_eq,decide_eq_true_eq] at h;obtain⟨h1,h2,h3⟩:=h;unfold P40 at h3;cases t with
    |tup ts =>
     rw[Á,Á,decide_eq_true_eq,Å5] at h3;exact⟨m,ts,rfl,h1,h2,h3.1,h3.2.1,h3.2.2⟩
    |_=>cases h3
   |_=>cases h
 |_=>cases h
theorem D10(k:Nat)(hw:B01 (.tup [.int m,.tup ts])=true)(x:D)(z:Z):b40 T (k + 9) s80 [.d (.tup [.int m,.tup ts]),.d x] z=some (.ok (.d (.bl (h32 ts.length x))) z):=by
 obtain⟨m',ts',e,_,_,h8,_⟩:=q91 hw;cases e;refine W.ok (k50 (ps:=2) (ns:=2) (b:=k80) rfl rfl (-0) (Wo (f60 k z hw) ?_))
 cases x with
 |tup l =>
  have e:((l.length:Int) == (ts.length:Int))=(l.length == ts.length):=by rw[Ä0,beq_iff_eq,beq_iff_eq];omega
  refine ib (b:=!((l.length:Int) == (ts.length:Int))) (λh=>?_) λh=>?_
  ·rw[e,ô] at h;exact sb (show false=((l.length == ts.length)&&_) by rw[h];rfl)
  ·rw[e,Î3] at h;refine ip (C10 (by rw[beq_iff_eq] at h;omega)) (q01 (λx=>.bl (chD x)) (λx _=>Wo (w70 (k + 4) x z) ⟨rfl,rfl⟩) (a00 (E80 l chD) ?_ :))
   exact sb (b:=l.all chD) (show _=((l.length == ts.length)&&l.all chD) by rw[h];rfl)
 |_=>exact sb rfl
theorem x60(k:Nat)(hw:B01 (.tup [.int m,.tup ts])=true)(z:Z)(h:h32 ts.length x=true):b40 T (k + 10) m60 [.d (.tup [.int m,.tup ts]),.d x] z=some (.ok (.d .non) z) :=
 W.ok (k50 (ps:=2) (ns:=2) (b:=h20) rfl rfl (-0) (Wo (D10 k hw x z) (ie (b:=!h32 ts.length x) (by rw[h];rfl) (sd rfl))))
def ZI(z:Z):Prop:=∃ n b,z=some (n,b)/\0<=n/\(b=false->n < 2147483647)
theorem k92{T:List Df}{k f ps ns:Nat}{b:Sm}{l:List S}{z:Z}{Q:S->Z->Prop}{E:Nat->Z->Prop}(hz:ZI z)(h:T[f]?=some (.code ps ns b))(hl:l.length=ps)(hn:ps<=ns)(q:WS (N70 T (k + 2)) false b (start ns (l.map plS)) z (λo z1=>match o with
  |.nx _=>Q (.d .non) z1
  |.rt s=>Q s z1) E):W (b40 T (k + 3) f l) z Q E:=by
 obtain⟨n,c,rfl,_⟩:=hz;refine k50 h hl hn (q.mono (λo z1 h=>?_) λ_ _ h=>h);cases o <;> exact h
theorem r01{a:Int}{n:Nat}(h:a.natAbs < n)(hn:n<=2 ^ 64:=by decide):a.natAbs < D80:=Ù h (Ò hn (-0))
theorem e71{i j:Int}(hi:i.natAbs < 2 ^ 64)(hj:j.natAbs < 2 ^ 64):u50 .mul (.int i) (.int j)=some (.d (.int (i * j))):=by
 show(if i.natAbs < D80/\j.natAbs < D80 then some (S.d (.int (i * j))) else none)=_;rw[if_pos ⟨r01 hi,r01 hj⟩]
theorem w12{i j:Int}(hj:0 < j)(hb:j.natAbs < 2 ^ 64):u50 .fdiv (.int i) (.int j)=some (.d (.int (i / j))):=by
 show(if 0 < j/\j.natAbs < D80 then some (S.d (.int (i / j))) else none)=_;rw[if_pos ⟨hj,r01 hb⟩]
def Drawn(m:Int)(s:S)(z1:Z):Prop:=ZI z1/\∃ r:Nat,s=.d (.int r)/\(r:Int) < m
theorem i30(k:Nat)(m:Int)(hz:ZI z)(m0:0 < m)(m1:m < 2 ^ 32):W (b40 T (k + 3) b00 [.z,.d (.int m)]) z (Drawn m) NE:=by
 have fin:∀ (a:Int) (z1:Z),ZI z1->Drawn m (.d (.int (a % m))) z1:=λa z1 h=>by
  have h0:=Ò5 a (show m≠0 by omega)
  exact⟨h,(a % m).toNat,by rw[Int.toNat_of_nonneg h0],by rw[Int.toNat_of_nonneg h0];exact emod_lt_of_pos _ m0⟩
 refine k92 hz (ps:=2) (ns:=4) (b:=r00) rfl rfl (-0) ?_
 obtain⟨n,b,rfl,n0,n1⟩:=hz;cases b with
 |true =>
  refine(a00 (e61 (i:=n) m0) ?_ :);refine(a00 (w12 (i:=n) m0 ∅) ?_ :)
  exact fin n _ ⟨n / m,true,rfl,Int.ediv_nonneg n0 ∅,λh=>nomatch h⟩
 |false =>
  have n1:=n1 rfl;have e1:∀ a:Int,0<=a % 2147483647/\a % 2147483647 < 2147483647:=λa=>⟨emod_nonneg _ (-0),emod_lt_of_pos _ (-0)⟩
  have e2:∀ a:Int,0<=a % 2147483629/\a % 2147483629 < 2147483629:=λa=>⟨emod_nonneg _ (-0),emod_lt_of_pos _ (-0)⟩
  have s1:∀ a:Int,(a % 2147483647).natAbs < 2 ^ 64:=λa=>by have:=e1 a;omega
  have s2:∀ a:Int,(a % 2147483629).natAbs < 2 ^ 64:=λa=>by have:=e2 a;omega
  refine(a00 (e71 (i:=n) (j:=48271) ∅ (-0)) ?_ :)
  have a1:=e1 (n * 48271 + 29);refine(a00 (e71 (s1 (n * 48271 + 29)) (s1 (n * 48271 + 29))) ?_ :);refine(a00 (e71 (i:=39373) (-0) (s1 (n * 48271 + 29))) ?_ :)
  refine(a00 (e71 (s2 _) (s2 _)) ?_ :);refine(a00 (e71 (i:=16807) (-0) (s2 _)) ?_ :)
  refine(a00 (e61 m0) ?_ :);exact fin _ _ ⟨_,false,rfl,a1.1,λ_=>a1.2⟩
theorem e81(k:Nat)(ns:List Int)(j:Nat)(z:Z):∃ c:Int,b40 T (k + 3) p40 [.d (.lst (ns.map D.int)),.d (.int j)] z=some (.ok (.d (.int c)) z):=by
 by_cases h:j < ns.length
 ·refine⟨ns[j],W.ok (k50 (ps:=2) (ns:=2) (b:=f40) rfl rfl (-0) (it (b:=decide ((j:Int) < ((ns.map D.int).length:Int))) (by simp[h]) ?_))⟩
  refine(a00 (o:=d71 (.lst (ns.map D.int)) (.int j)) (L2.z40 (v:=.int ns[j]) (by simp[h])) ?_ :)
  exact sd rfl
 ·exact⟨0,W.ok (k50 (ps:=2) (ns:=2) (b:=f40) rfl rfl (-0) (ie (b:=decide ((j:Int) < ((ns.map D.int).length:Int))) (by simp;omega) (sd rfl)))⟩
theorem B11(k:Nat)(ns:List Int)(j:Nat)(z:Z):∃ (n:Int) (b:Bool),ZI (some (n,b))/\b40 T (k + 4) w50 [.d (.lst (ns.map D.int)),.d (.int j)] z=some (.ok (.fr [.int n,.bl b]) z):=by
 obtain⟨c,hc⟩:=e81 k ns j z;by_cases h:(10 ^ 18:Int)<=c
 ·exact⟨c - 10 ^ 18,true,⟨_,_,rfl,by omega,λh=>nomatch h⟩,W.ok (k50 (ps:=2) (ns:=3) (b:=i10) rfl rfl (-0) (Wo hc (it (b:=decide ((10 ^ 18:Int)<=c)) (decide_eq_true h) (sd rfl))))⟩
 ·refine⟨c % 2147483647,false,⟨_,_,rfl,emod_nonneg _ (-0),λ_=>emod_lt_of_pos _ (-0)⟩,W.ok (k50 (ps:=2) (ns:=3) (b:=i10) rfl rfl (-0) (Wo hc (ie (b:=decide ((10 ^ 18:Int)<=c)) (decide_eq_false h) (sd rfl))))⟩
theorem V00(h0:0<=m)(h1:m < 100000):itD .rng1 [.int m]=some ((î m.toNat).map λ(i:Nat)=>D.int i):=by
 show(if inR m=true then _ else none)=_;rw[if_pos (H50.mpr ⟨by omega,h1⟩)]
theorem V10:∀ l:List Int,g60 (l.map D.int)=true/\l60 (l.map D.int)=0
 |[]=>⟨rfl,rfl⟩
 |x::r=>by
  obtain⟨h1,h2⟩:=V10 r;refine⟨h1,?_⟩;show Nat.max 0 (l60 (r.map D.int))=0;rw[h2];rfl
theorem r11(l:List Int):okD (.lst (l.map D.int))=true:=by
 obtain⟨h1,h2⟩:=V10 l;show(g60 (l.map D.int)&&decide (l60 (l.map D.int) + 1<=40))=true;rw[h1,h2];rfl
theorem B21(n:Nat):(î n).map (λ(i:Nat)=>D.int i)=((î n).map λ(i:Nat)=>(i:Int)).map D.int:=by
 rw[ó];rfl
theorem E90:∀ l:List Int,i50 (l.map D.int)=true
 |[]=>rfl|_::r=>E90 r
theorem R41{l:List Int}{j:Nat}(h:j < l.length):(l.map D.int)[j]?=some (.int l[j]):=by rw[Û,ø h];rfl
theorem B31{j:Nat}(h:l[j]?=some x):d71 (.lst l) (.int j)=some x:=L2.z40 h
theorem h42{j:Nat}(h:l[j]?=some x):d71 (.tup l) (.int j)=some x:=L2.z40 h
def pr(p:Int × Int):D:=.tup [.int p.1,.int p.2]
def ky(p:Int × Int):List Int:=[p.1,p.2]
theorem H92(a b c d:Int):MySort.h40 [a,b] [c,d]=if a=c then(if b=d then false else decide (b < d)) else decide (a < c):=rfl
def Ch:List (Int × Int)->Prop
 |a::b::r=>HT.leB (ky a) (ky b)=true/\Ch (b::r)|_=>True
theorem a41(h:MySort.h40 (ky p) (ky q)=true):HT.leB (ky p) (ky q)=true:=by
 unfold HT.leB;unfold ky at h ⊢;rw[H92] at h ⊢;by_cases h1:p.1=q.1
 ·rw[if_pos h1] at h;rw[if_pos h1.symm];by_cases h2:p.2=q.2
  ·rw[if_pos h2] at h;cases h
  ·rw[if_neg h2] at h;rw[if_neg (À4 h2)];simp only[decide_eq_true_eq] at h;simp;omega
 ·rw[if_neg h1] at h;rw[if_neg (À4 h1)];simp only[decide_eq_true_eq] at h;simp;omega
def u21(k:Int × Int):List (Int × Int)->List (Int × Int)
 |[]=>[k]|y::r=>if MySort.h40 (ky y) (ky k) then y::u21 k r else k::y::r
def e91:List (Int × Int)->List (Int × Int)
 |[]=>[]|k::r=>u21 k (e91 r)
theorem P60(k:Int × Int):∀ l,(u21 k l).Perm (k::l)
 |[]=>.refl _
 |y::r=>by
  unfold u21;split
  ·exact((P60 k r).cons y).trans (.swap _ _ _)
  ·exact .refl _
theorem F00:∀ l,(e91 l).Perm l
 |[]=>.refl _|k::r=>(P60 k _).trans ((F00 r).cons k)
theorem r21(k:Int × Int):∀ l,Ch l->Ch (u21 k l)
 |[],_=>trivial
 |[y],_=>by
  unfold u21;split
  ·rename_i h;exact⟨a41 h,trivial⟩
  ·rename_i h;refine⟨?_,trivial⟩;unfold HT.leB;simpa using h
 |y::x::r,h=>by
  obtain⟨h1,h2⟩:=h;have ih:=r21 k (x::r) h2;unfold u21;split
  ·rename_i hy;unfold u21 at ih ⊢;split at ih
   ·rename_i hx;rw[if_pos hx];exact⟨h1,ih⟩
   ·rename_i hx;rw[if_neg hx];exact⟨a41 hy,ih⟩
  ·rename_i hy;refine⟨?_,h1,h2⟩;unfold HT.leB;simpa using hy
theorem a51:∀ l,Ch (e91 l)
 |[]=>trivial|k::r=>r21 k _ (a51 r)
theorem a61(k:Int × Int):∀ l:List (Int × Int),y31 (pr k) (l.map pr)=(u21 k l).map pr
 |[]=>rfl
 |y::r=>by
  unfold u21;show(if MySort.h40 (ky y) (ky k) then pr y::y31 (pr k) (r.map pr) else pr k::pr y::r.map pr)=_;split
  ·rw[a61 k r];rfl
  ·rfl
theorem P70:∀ l:List (Int × Int),A40 (l.map pr)=(e91 l).map pr
 |[]=>rfl
 |k::r=>by
  show y31 (pr k) (A40 (r.map pr))=_;rw[P70 r,a61];rfl
theorem w22(p q:Int × Int):ltD (pr p) (pr q)=some (MySort.h40 (ky p) (ky q)):=by
 show(if (p.1 == q.1)=true then(if (p.2 == q.2)=true then some false else some (decide (p.2 < q.2))) else some (decide (p.1 < q.1)))=some (if p.1=q.1 then(if p.2=q.2 then false else decide (p.2 < q.2)) else decide (p.1 < q.1));simp only[beq_iff_eq];split
 ·split <;> rfl
 ·rfl
theorem R51(p q:Int × Int):j30 (pr p) (pr q)=true:=by
 unfold j30;rw[w22];show(true&&((some (MySort.h40 (ky p) (ky q)) == some (MySort.h40 (ky p) (ky q)))&&(((p.1 == q.1)&&((p.2 == q.2)&&true)) || !([p.1,p.2] == [q.1,q.2]))))=true;rw[beq_self_eq_true,Ä6,Ä6,Ó4];by_cases h1:p.1=q.1 <;> by_cases h2:p.2=q.2 <;> simp[h1,h2]
theorem r31(l:List (Int × Int)):p10 (l.map pr)=true:=by
 refine ï.mpr λx hx=>?_;obtain⟨p,_,rfl⟩:=â.mp hx;show(true&&(true&&(l.map pr).all (j30 (pr p))))=true;refine ï.mpr λy hy=>?_;obtain⟨q,_,rfl⟩:=â.mp hy;exact R51 p q
theorem r41(h:l.length < 64):bfD .sorted [.lst (l.map pr)]=some (.fr ((e91 l).map pr)):=by
 show(if (l.map pr).length < 64/\p10 (l.map pr)=true then some (S.fr (A40 (l.map pr))) else(y52 (l.map pr)).map S.fr)=_;rw[if_pos ⟨by rw[Ë];exact h,r31 l⟩,P70]
theorem a71:∀ {l:List (Int × Int)},Ch l->P30 (l.map pr)=true
 |[],_=>rfl|[_],_=>rfl
 |a::b::r,h=>by
  have ih:=a71 h.2;show((q00 (pr a::pr b::r.map pr) (pr b::r.map pr)).all leD)=true;have e:q00 (pr a::pr b::r.map pr) (pr b::r.map pr)=.tup [pr a,pr b]::q00 (pr b::r.map pr) (r.map pr):=rfl;rw[e,Ã5,Á];exact⟨h.1,ih⟩
theorem J50:∀ l:List (Int × Int),i50 (l.map pr)=true
 |[]=>rfl
 |_::r=>by
  show(bare _&&i50 (r.map pr))=true;rw[J50 r];rfl
def x70(m:Int)(ps:List (Int × Int)):D:=.tup [.int m,.tup (ps.map pr)]
structure c50(m:Int)(ps:List (Int × Int)):Prop where
 m1:1<=m
 m6:m<=6
 len:ps.length<=8
 tie:∀ p∈ps,0<=p.1/\p.1 < p.2/\p.2 < m
 ch:Ch ps
theorem c50.web(g:c50 m ps):B01 (x70 m ps)=true:=by
 unfold x70 B01 w02 P40;simp only[Á,decide_eq_true_eq,Å5,Ë];refine⟨g.m1,g.m6,g.len,λt ht=>?_,a71 g.ch⟩;obtain⟨p,hp,rfl⟩:=â.mp ht;obtain⟨h1,h2,h3⟩:=g.tie p hp;unfold pr q51 c80;simp only[Á,decide_eq_true_eq];omega
theorem h52(h1:0<=i)(hi:i < 100)(h0:-100 < m)(h:m < 100000):itD .rng2 [.int i,.int m]=some ((î (m - i).toNat).map λ(k:Nat)=>D.int (i + k)):=by
 show(if inR i=true/\inR m=true then _ else none)=_;rw[if_pos ⟨H50.mpr ∅,H50.mpr ∅⟩]
theorem V20{L:List D}{n:Nat}(f:D->Bool)(h:n < L.length)(ha:L.all f=true):∃ x,L[n]?=some x/\f x=true :=
 ⟨L[n],ø h,ï.mp ha _ (Ê3 h)⟩
def btw(a b:Int):D->Bool
 |.int i=>decide (a<=i)&&decide (i<=b)|_=>false
theorem G41(h:btw a b x=true):∃ i,x=.int i/\a<=i/\i<=b:=by
 cases x with
 |int i =>
  unfold btw at h;rw[Á,decide_eq_true_eq,decide_eq_true_eq] at h;exact⟨i,rfl,h⟩
 |_=>cases h
theorem h62(l:List D)(h:0<=n):cutD l none (some n)=l.take n.toNat:=by
 obtain⟨k,rfl⟩:=Ï1 h;have h1:HT.sIx l.length l.length (some (k:Int))=min k l.length:=HT.g91 _ _ k;unfold cutD;rw[h1];show(l.drop 0).take (min k l.length - 0)=_;rw[List.drop_zero,Nat.sub_zero,À7];rcases Nat.le_total k l.length with h | h
 ·rw[Ù7 h]
 ·rw[Ø1 h,List.take_length,È6 h]
theorem w32{α:Type}{l:List α}{a:α}:(l++[a]).length=l.length + 1:=by rw[Ã1];rfl
theorem G51(a b:Int):(if b < a then b else a)=min a b/\(if b > a then b else a)=max a b:=by
 constructor <;> (split <;> omega)
theorem P80{P:Int × Int->Prop}:∀ {xs ys:List D},PySem.Paired (λ_ y=>∃ c,y=pr c/\P c) xs ys->∃ cs:List (Int × Int),ys=cs.map pr/\cs.length=xs.length/\∀ c∈cs,P c
 |[],_,h=>by cases h;exact⟨[],rfl,rfl,λc hc=>nomatch hc⟩
 |x::r,_,h=>by
  cases h with
  |cons h1 h2 =>
   obtain⟨c,rfl,hc⟩:=h1;obtain⟨cs,rfl,hl,ha⟩:=P80 h2;refine⟨c::cs,rfl,by rw[Ø,hl];rfl,λd hd=>?_⟩
   rcases ü.mp hd with rfl | hd
   ·exact hc
   ·exact ha d hd
def l02(m:Int)(p:Int × Int):Prop:=0<=p.1/\p.1 < p.2/\p.2 < m
abbrev h72(mo m:Int)(ps:List (Int × Int))(o4 o5 o6:Option S):Env:=[some .z,some (.d (.int mo)),some (.d (.int m)),some (.fr (ps.map pr)),o4,o5,o6]
theorem h82:h72 mo m (ps++[p]) o4 o5 o6=[some .z,some (.d (.int mo)),some (.d (.int m)),some (.fr (ps.map pr++[pr p])),o4,o5,o6]:=by rw[h72,Ê4];rfl
theorem B41{mo m:Int}{ps:List (Int × Int)}(m1:1<=m)(m6:m<=6)(h0:0<=mo)(h8:mo<=8)(hp:∀ p∈ps,l02 m p)(hl:ps.length < 64):∃ qs,bfD .sorted [.lst (cutD (ps.map pr) none (some mo))]=some (.fr (qs.map pr))/\c50 m qs/\(qs.length:Int)<=mo:=by
 have hl':(ps.take mo.toNat).length < 64:=by rw[Å4];omega
 refine⟨e91 (ps.take mo.toNat),by rw[h62 _ h0,← List.map_take];exact r41 hl',?_⟩
 have hperm:=F00 (ps.take mo.toNat);have hlen:=hperm.length_eq;rw[Å4] at hlen;exact⟨⟨m1,m6,by omega,λq hq=>hp q (List.mem_of_mem_take (hperm.mem_iff.mp hq)),a51 _⟩,by omega⟩
theorem P90(k:Nat){mo:Int}{z:Z}(hz:ZI z)(h0:0<=mo)(h8:mo<=8):W (b40 T (k + 5) u70 [.z,.d (.int mo)]) z (λs z1=>ZI z1/\∃ m ps,s=.d (x70 m ps)/\c50 m ps/\(ps.length:Int)<=mo) NE:=by
 refine k92 hz (ps:=2) (ns:=7) (b:=v50) rfl rfl (-0) ?_
 refine(i30 (k + 1) 8 hz (-0) (-0)).imp λs z1 ⟨hz1,n,e,hn⟩=>?_
 subst e;obtain⟨x,ex,hx⟩:=V20 (L:=[D.int 6,.int 5,.int 4,.int 3,.int 4,.int 5,.int 2,.int 1]) (n:=n) (btw 1 6) (by simp only[Ø,Á9];omega) (-0)
 obtain⟨m,rfl,m1,m6⟩:=G41 hx;refine(a00 (B31 ex) ?_ :);refine(I80 (.fr []) (h72 mo m [] none none none) ?_ ?_ ?_ :)
 ·exact⟨rfl,rfl⟩
 ·rfl
 refine g32 (λρ z2=>ZI z2/\∃ ps:List (Int × Int),ρ=h72 mo m ps none none none/\(∀ p∈ps,l02 m p)/\ps.length<=5) ?_ ?_
 ·refine ib (b:=decide (1 < m)) (λh=>?_) λh=>⟨hz1,[],rfl,(λp hp=>nomatch hp),by simp⟩
  have h:=of_decide_eq_true h;refine(i30 (k + 1) 5 hz1 (-0) (-0)).imp λs z2 ⟨hz2,v,e,hv⟩=>?_
  subst e;refine ib (b:=decide (0 < (v:Int))) (λh1=>?_) λh1=>⟨hz2,[],rfl,(λp hp=>nomatch hp),by simp⟩
  refine(a00 (h52 (i:=1) (m:=m) (-0) (-0) ∅ ∅) ?_ :)
  refine ip (by rw[Ë,ð];simp only[most];omega) (H72 (I:=ZI) (P:=λ_ y=>∃ c,y=pr c/\l02 m c) hz2 (λx hx z3 hz3=>?_) λys z3 hz3 hys=>?_)
  ·obtain⟨i,hi,rfl⟩:=â.mp hx;have hi:=Æ8.mp hi;refine(i30 (k + 1) (1 + (i:Int)) hz3 ∅ ∅).imp λs z4 ⟨hz4,a,e,ha⟩=>?_
   subst e;exact⟨hz4,((a:Int),1 + (i:Int)),rfl,by show(0:Int)<=a;omega,ha,by show 1 + (i:Int) < m;omega⟩
  ·obtain⟨cs,rfl,hl,ha⟩:=P80 hys;rw[Ë,ð] at hl;exact⟨hz3,cs,rfl,ha,by omega⟩
 ·rintro ρ z2 ⟨hz2,ps,rfl,hp,hl⟩;refine(i30 (k + 1) (mo + 1) hz2 ∅ ∅).imp λs z3 ⟨hz3,t,e,ht⟩=>?_
  subst e;have hj:(if decide (1 < m)=true then(1:Int) else 0)=0∨((if decide (1 < m)=true then(1:Int) else 0)=1/\1 < m):=by
   by_cases h:1 < m
   ·exact .inr ⟨by rw[decide_eq_true h];rfl,h⟩
   ·exact .inl (by rw[decide_eq_false h];rfl)
  refine(a00 (e71 (i:=(t:Int)) (j:=if decide (1 < m)=true then(1:Int) else 0) ∅ (by rcases hj with h | h <;> (first | rw[h] | rw[h.1]) <;> decide)) ?_ :)
  have hc:∃ c:Nat,(t:Int) * (if decide (1 < m)=true then(1:Int) else 0)=c/\c<=8/\(0 < c->1 < m):=by
   rcases hj with h | h
   ·exact⟨0,by rw[h,Ð3];rfl,by omega,λh=>absurd h ∅⟩
   ·exact⟨t,by rw[h.1,mul_one],by omega,λ_=>h.2⟩
  obtain⟨c,ec,hc8,hcm⟩:=hc;refine(a00 (o:=itD .rng1 [.int ((t:Int) * (if decide (1 < m)=true then(1:Int) else 0))]) (a:=(î c).map λ(i:Nat)=>D.int i) (by rw[ec,V00 ∅ ∅,À7]) ?_ :)
  refine I70 (λxs ρ z=>ZI z/\(0 < xs.length->1 < m)/\∃ (ps:List (Int × Int)) (o4 o5 o6:Option S),ρ=h72 mo m ps o4 o5 o6/\(∀ p∈ps,l02 m p)/\ps.length + xs.length<=13) _ ⟨hz3,λh=>hcm (by rw[Ë,ð] at h;exact h),ps,_,_,_,rfl,hp,by rw[Ë,ð];omega⟩ ?_ ?_
  ·rintro x r ρ z4 ⟨hz4,hm,ps,o4,o5,o6,rfl,hp,hl⟩;have hm:=hm (by simp)
   refine(i30 (k + 1) m hz4 ∅ ∅).imp λs z5 ⟨hz5,a,e,ha⟩=>?_
   subst e;refine(i30 (k + 1) (m - 1) hz5 ∅ ∅).imp λs z6 ⟨hz6,b,e,hb⟩=>?_
   subst e;refine(a00 (e61 (i:=(a:Int) + 1 + b) (j:=m) ∅) ?_ :)
   have hq:0<=((a:Int) + 1 + b) % m/\((a:Int) + 1 + b) % m < m/\((a:Int) + 1 + b) % m≠a:=by
    refine⟨Ò5 _ ∅,emod_lt_of_pos _ ∅,?_⟩
    by_cases h:(a:Int) + 1 + b < m
    ·rw[Í4 ∅ h];omega
    ·rw[show(a:Int) + 1 + b=((a:Int) + 1 + b - m) + m from by omega,Int.add_emod_right,Í4 ∅ ∅];omega
   generalize ((a:Int) + 1 + b) % m=q at hq ⊢;refine ip ⟨rfl,by rw[Ë];simp only[most,Ø] at hl ⊢;omega⟩ ?_
   refine⟨hz6,λ_=>hm,ps++[(min (a:Int) q,max (a:Int) q)],some (.d x),some (.d (.int a)),some (.d (.int q)),?_,λp hp'=>?_,by rw[w32];simp only[Ø] at hl;omega⟩
   ·rw[h82,← (G51 (a:Int) q).1,← (G51 (a:Int) q).2];rfl
   ·rcases Â0.mp hp' with h | h
    ·exact hp p h
    ·rw[Á2.mp h];show 0<=min (a:Int) q/\min (a:Int) q < max (a:Int) q/\max (a:Int) q < m;omega
  ·rintro ρ z4 ⟨hz4,_,ps,o4,o5,o6,rfl,hp,hl⟩;obtain⟨qs,e,g,hq⟩:=B41 m1 m6 h0 h8 hp (by simp only[Á9] at hl;omega)
   refine(a00 e ?_ :);exact⟨hz4,m,qs,rfl,g,hq⟩
theorem B51(hj:0 < j)(hb:big j):u50 .fdiv (.int i) (.int j)=some (.d (.int (i / j))):=by
 show(if 0 < j/\j.natAbs < D80 then some (S.d (.int (i / j))) else none)=_;rw[if_pos ⟨hj,U90 ∅ hb⟩]
theorem h92(i0:0<=i)(hi:big i)(j0:0<=j)(hj:big j):u50 .mul (.int i) (.int j)=some (.d (.int (i * j))):=by
 show(if i.natAbs < D80/\j.natAbs < D80 then some (S.d (.int (i * j))) else none)=_;rw[if_pos ⟨U90 i0 hi,U90 j0 hj⟩]
theorem r20(h:0 < b):0 < ((gcd t b:Nat):Int):=by
 have:=Int.gcd_pos_of_ne_zero_right (a:=t) (b:=b) ∅
 omega
theorem J60(h:0 < b)(hb:big b):big (gcd t b:Int):=Õ0 (Ü1 h (Int.gcd_dvd_right t b)) hb
def h50(t b:Int):Int × Int:=(t / gcd t b,b / gcd t b)
theorem C20(k:Nat)(t b:Int)(z:Z)(h0:0 < b)(h1:big b):b40 T (k + 4) y50 [.d (.int t),.d (.int b)] z=some (.ok (.d (pr (h50 t b))) z):=by
 refine W.ok (k50 (ps:=2) (ns:=3) (b:=I90) rfl rfl (-0) (Wo (j90 k t b z h0 h1) ?_))
 refine(a00 (B51 (i:=t) (r20 (t:=t) h0) (J60 h0 h1)) ?_ :);refine(a00 (B51 (i:=b) (r20 (t:=t) h0) (J60 h0 h1)) ?_ :);exact sd rfl
theorem V30(h:n<=3999)(hi:i<=2 ^ n):big i:=by
 refine Õ0 hi ?_;have h2:(2:Nat) ^ n < 2 ^ 4000:=Nat.pow_lt_pow_right (-0) ∅
 have e:((2 ^ n:Nat):Int) < ((2 ^ 4000:Nat):Int):=Int.ofNat_lt.mpr h2
 rwa [Ò4,Ò4] at e
theorem J70(h0:0 < b):t=gcd t b * (h50 t b).1/\b=gcd t b * (h50 t b).2:=by
 constructor
 ·exact(Int.mul_ediv_cancel' (Int.gcd_dvd_left t b)).symm
 ·exact(Int.mul_ediv_cancel' (Int.gcd_dvd_right t b)).symm
theorem r51(h0:0 < b):gcd (h50 t b).1 (h50 t b).2=1:=Int.gcd_ediv_gcd_ediv_gcd_of_ne_zero_right ∅
theorem J80(h0:0 < b):0 < (h50 t b).2:=by
 have g0:=r20 (t:=t) h0;obtain⟨_,e⟩:=J70 (t:=t) h0;refine Int.pos_of_mul_pos_right (a:=gcd t b) ?_ g0;omega
theorem R61(h0:0 < b)(h1:0<=t)(h2:t<=b):0<=(h50 t b).1/\(h50 t b).1<=(h50 t b).2/\(h50 t b).2<=b:=by
 have g0:=r20 (t:=t) h0;have p0:=J80 (t:=t) h0;obtain⟨e1,e2⟩:=J70 (t:=t) h0;refine⟨Int.ediv_nonneg h1 (Ë8 g0),Int.le_of_mul_le_mul_left (a:=gcd t b) ∅ g0,?_⟩
 have:1 * (h50 t b).2<=(gcd t b:Int) * (h50 t b).2:=Int.mul_le_mul_of_nonneg_right ∅ ∅
 omega
theorem G61(h:gcd a b=1)(hd:b∣a * d):b∣d:=by
 have h1:Nat.Coprime b.natAbs a.natAbs:=by rw[Nat.coprime_comm];exact h
 exact Int.natAbs_dvd_natAbs.mp (h1.dvd_of_dvd_mul_left (by rw[← natAbs_mul];exact Int.natAbs_dvd_natAbs.mpr hd))
theorem f01(hb:0 < b)(hd:0 < d)(h1:gcd a b=1)(h2:gcd c d=1)(h:a * d=c * b):a=c/\b=d:=by
 have k1:b∣d:=G61 h1 ⟨c,by rw[h,Ë7]⟩
 have k2:d∣b:=G61 h2 ⟨a,by rw[← h,Ë7]⟩
 have e:b=d:=Int.le_antisymm (Ü1 hd k1) (Ü1 hb k2);subst e;exact⟨Æ9 ∅ h,rfl⟩
def IsC(c:Int × Int):Prop:=1<=c.2/\c.2<=1000/\0<=c.1/\c.1<=c.2/\gcd c.1 c.2=1
theorem IsC.ch(h:IsC c):chD (pr c)=true:=by
 obtain⟨h1,h2,h3,h4,h5⟩:=h;show chI c.1 c.2=true;unfold chI;rw[h5,decide_eq_true h1,decide_eq_true h2,decide_eq_true h3,decide_eq_true h4];rfl
theorem R71(h0:0 < b)(hb:b<=1000)(h1:0<=t)(h2:t<=b):IsC (h50 t b):=by
 obtain⟨y0,yx,xb⟩:=R61 h0 h1 h2;have:=J80 (t:=t) h0;exact⟨by omega,by omega,y0,yx,r51 h0⟩
theorem J90(k:Nat)(t b:Int)(z:Z)(h0:0 < b)(h1:big b):b40 T (k + 3) t20 [.d (.int t),.d (.int b)] z=some (.ok (.d (pr (h50 t b))) z):=by
 refine W.ok (k50 (ps:=2) (ns:=4) (b:=l10) rfl rfl (-0) (g72 (λn ρ z1=>z1=z/\∃ c d:Int,ρ=[some (.d (.int t)),some (.d (.int b)),some (.d (.int c)),some (.d (.int d))]/\GT n c d/\gcd c d=gcd t b/\(d=0->0<=c)) (2 * 4000 + 1) ⟨rfl,_,b,rfl,⟨Ë8 h0,.inl ⟨4000,rfl,h1⟩⟩,rfl,λh=>by omega⟩ (-0) ?_))
 rintro n ρ z1 ⟨rfl,c,d,rfl,g,hg,hc⟩;refine ib (b:=!(d == 0)) (λhd=>?_) λhd=>?_
 ·rw[ô,beq_eq_false_iff_ne] at hd;have hd':0 < d:=by have:=g.1;omega
  obtain⟨m,hm,g'⟩:=g.step hd';refine(a00 (e61 (i:=c) hd') ?_ :);exact⟨m,hm,rfl,d,c % d,rfl,g',(q81 c d).trans hg,λ_=>Int.le_of_lt hd'⟩
 ·rw[Î3,beq_iff_eq] at hd;subst hd;rw[Int.gcd_zero_right] at hg;have e:c=((gcd t b:Nat):Int):=by have:=hc rfl;omega
  subst e;refine(a00 (B51 (i:=t) (r20 (t:=t) h0) (J60 h0 h1)) ?_ :);refine(a00 (B51 (i:=b) (r20 (t:=t) h0) (J60 h0 h1)) ?_ :);exact sd rfl
def w42:D->Bool
 |.tup [.int t,.int b]=>chI t b|_=>false
theorem R81(h:w42 x=true):∃ c,x=pr c/\IsC c:=by
 unfold w42 at h;split at h
 ·rename_i t b;unfold chI at h;simp only[Á,decide_eq_true_eq,beq_iff_eq] at h;exact⟨(t,b),rfl,h.1.1,h.1.2,h.2.1.1,h.2.1.2,by have:=h.2.2;show gcd t b=1;omega⟩
 ·cases h
theorem Q00(k:Nat)(hz:ZI z):W (b40 T (k + 4) t30 [.z]) z (λs z1=>ZI z1/\∃ c,s=.d (pr c)/\IsC c) NE:=by
 refine k92 hz (ps:=1) (ns:=4) (b:=l20) rfl rfl (-0) ?_
 refine(i30 k 16 hz (-0) (-0)).imp λs z1 ⟨hz1,v,e,v1⟩=>?_
 subst e;refine ib (b:=decide ((v:Int) < 9)) (λh2=>?_) λh2=>?_
 ·have h2:=of_decide_eq_true h2;obtain⟨x,ex,hx⟩:=V20 (L:=[pr (1,2),pr (2,3),pr (1,3),pr (3,4),pr (9,10),pr (0,1),pr (1,1),pr (1,1000),pr (999,1000)]) (n:=v) w42 (by simp only[Ø,Á9];omega) (by decide +kernel)
  obtain⟨c,rfl,hc⟩:=R81 hx;refine(a00 (B31 ex) ?_ :);exact⟨hz1,c,rfl,hc⟩
 ·refine(i30 k 2 hz1 (-0) (-0)).imp λs z2 ⟨hz2,a,e,a1⟩=>?_
  subst e;obtain⟨x,ex,hx⟩:=V20 (L:=[D.int 12,.int 1000]) (n:=a) (btw 1 1000) (by simp only[Ø,Á9];omega) (-0)
  obtain⟨u,rfl,u1,u2⟩:=G41 hx;refine(a00 (B31 ex) ?_ :);refine(i30 k u hz2 ∅ ∅).imp λs z3 ⟨hz3,b,e,b1⟩=>?_
  subst e;refine(i30 k (1 + (b:Int) + 1) hz3 ∅ ∅).imp λs z4 ⟨hz4,t,e,t1⟩=>?_
  subst e;exact Wo (J90 k _ _ _ ∅ (t40 ∅)) ⟨hz4,h50 t (1 + (b:Int)),rfl,R71 ∅ ∅ ∅ ∅⟩
theorem i02{cs:List (Int × Int)}{n:Nat}(h:cs.length=n)(ha:∀ c∈cs,IsC c):h32 n (.tup (cs.map pr))=true:=by
 unfold h32;rw[Á,beq_iff_eq,Ë,Å5];refine⟨h,λd hd=>?_⟩;obtain⟨c,hc,rfl⟩:=â.mp hd;exact(ha c hc).ch
def ltP:D->Bool
 |.tup [.int a,.int b]=>decide (a < b)|_=>false
def r61(l:List D):Bool:=(q00 l (l.drop 1)).all ltP
def z62(m:Int):D->Bool
 |.tup l=>(l.all (λx=>c80 x m)&&r61 l)&&!l.isEmpty|_=>false
def short:D->Bool
 |.tup l=>decide (l.length<=1000)|_=>true
theorem B61(k:Nat)(h:∀ x∈l,c80 x m=true)(hl:l.length<=1000)(z:Z):b40 T (k + 3) q21 [.d (.tup l)] z=some (.ok (.d (.bl (r61 l))) z):=by
 have e1:cutD l (some 1) none=l.drop 1:=a21 l 1;refine W.ok (k50 (ps:=1) (ns:=1) (b:=U60) rfl rfl (-0) (ip (c:=(q00 l (cutD l (some 1) none)).length<=most) (Ò (y60 _ _) (C10 hl)) (q01 (λx=>.bl (ltP x)) (λx hx=>?_) (a00 (E80 _ ltP) ?_ :))))
 ·obtain⟨u,hu,v,hv,rfl⟩:=J40 hx;rw[e1] at hv;obtain⟨i,rfl,_⟩:=j80 (h u hu);obtain⟨j,rfl,_⟩:=j80 (h v (List.mem_of_mem_drop hv));exact⟨rfl,rfl⟩
 ·exact sb (b:=(q00 l (cutD l (some 1) none)).all ltP) (by rw[e1];rfl)
theorem Q10(k:Nat)(m:Int)(hs:short x=true)(z:Z):b40 T (k + 5) j70 [.d x,.d (.int m)] z=some (.ok (.d (.bl (match x with | .tup l=>l.all (λx=>c80 x m)&&r61 l | _=>false))) z):=by
 refine W.ok (k50 (ps:=2) (ns:=2) (b:=f20) rfl rfl (-0) ?_)
 cases x with
 |tup l =>
  have hl:l.length<=1000:=of_decide_eq_true hs;refine ip (C10 hl) (q01 (λx=>.bl (c80 x m)) (λx _=>Wo (r10 k x m z) ⟨rfl,rfl⟩) (a00 (E80 l λx=>c80 x m) ?_ :));refine ib (b:=l.all λx=>c80 x m) (λh=>?_) λh=>sb (show false=(l.all (λx=>c80 x m)&&r61 l) by rw[h];rfl)
  exact Wo (B61 (k + 1) (ï.mp h) hl z) (sb (show r61 l=(l.all (λx=>c80 x m)&&r61 l) by rw[h];rfl))
 |_=>exact sb rfl
theorem d00(k:Nat)(z:Z)(h:z62 m x=true)(hs:short x=true):b40 T (k + 6) c60 [.d (.tup [.int m,t]),.d x] z=some (.ok (.d .non) z):=by
 refine W.ok (k50 (ps:=2) (ns:=2) (b:=i80) rfl rfl (-0) (Wo (Q10 k m hs z) ?_))
 cases x with
 |tup l =>
  have h:((l.all (λx=>c80 x m)&&r61 l)&&!l.isEmpty)=true:=h;rw[Á] at h;refine ie (b:=!(l.all (λx=>c80 x m)&&r61 l)) (by rw[h.1];rfl) ?_
  cases l with
  |nil=>cases h.2
  |cons y r=>exact sd rfl
 |_=>cases h
def b60(n:Nat):D:=.int n
structure f30(m:Int)(l:List Nat):Prop where
 ne:l≠[]
 up:l.Pairwise (· < ·)
 lt:∀ p∈l,(p:Int) < m
theorem G71:∀ {l:List Nat},l.Pairwise (· < ·)->r61 (l.map b60)=true
 |[],_=>rfl|[_],_=>rfl
 |a::b::r,h=>by
  have ih:=G71 (Ó3.of_cons h);show(decide ((a:Int) < (b:Int))&&r61 ((b::r).map b60))=true;rw[ih,decide_eq_true (by have:=(Ë9.mp h).1 b Ð;omega)];rfl
theorem f30.pls(g:f30 m l):z62 m (.tup (l.map b60))=true:=by
 show(((l.map b60).all (λx=>c80 x m)&&r61 (l.map b60))&&!(l.map b60).isEmpty)=true;rw[G71 g.up,Ó4,Á];refine⟨ï.mpr λx hx=>?_,?_⟩
 ·obtain⟨p,hp,rfl⟩:=â.mp hx;have:=g.lt p hp;show(decide (0<=(p:Int))&&decide ((p:Int) < m))=true;rw[decide_eq_true this,decide_eq_true ∅];rfl
 ·cases l with
  |nil=>exact absurd rfl g.ne|cons _ _=>rfl
theorem f30.len(g:f30 m l)(h6:m<=6):l.length<=6:=by
 have:l.Sublist (î 6):=by
  have e:l=(î 6).filter λx=>l.contains x:=by
   refine Ø4 (le:=(· < ·)) ?_ g.up (Ø5 _ Ï5) ?_
   ·intro a b _ _ h1 h2;omega
   ·refine(List.perm_ext_iff_of_nodup (g.up.imp λh e=>by omega) (Ø5 _ List.nodup_range)).mpr λa=>?_
    rw[Ð2,Æ8,Ü7];exact⟨λh=>⟨by have:=g.lt a h;omega,h⟩,λh=>h.2⟩
  rw[e];exact List.filter_sublist
 simpa using this.length_le
theorem B71:∀ {ys:List D}{l:List Nat},ys.Sublist (l.map b60)->∃ l':List Nat,ys=l'.map b60/\l'.Sublist l:=λ{ys l} h=>by
 obtain⟨l',h1,h2⟩:=List.sublist_map_iff.mp h;exact⟨l',h2,h1⟩
theorem R91(n:Nat):((î n).map λ(i:Nat)=>D.int i)=(î n).map b60:=rfl
theorem z72(a b:Int):MySort.h40 [a] [b]=decide (a < b):=by
 show(if a=b then false else decide (a < b))=_;by_cases h:a=b
 ·rw[if_pos h,h];simp
 ·rw[if_neg h]
theorem a81(a b:Nat):j30 (b60 a) (b60 b)=true:=by
 show(true&&((some (decide ((a:Int) < b)) == some (MySort.h40 [(a:Int)] [(b:Int)]))&&(((a:Int) == b) || !([(a:Int)] == [(b:Int)]))))=true;rw[z72,beq_self_eq_true,Ä6,Ä6];by_cases h:(a:Int)=b <;> simp[h]
theorem f11(x y:Nat):bfD .sorted [.lst [b60 x,b60 y]]=some (.fr [b60 (min x y),b60 (max x y)]):=by
 have ok:p10 [b60 x,b60 y]=true:=by
  refine ï.mpr λu hu=>?_;have one:∀ a:Nat,(true&&(true&&[b60 x,b60 y].all (j30 (b60 a))))=true:=λa=>by
   show(j30 (b60 a) (b60 x)&&(j30 (b60 a) (b60 y)&&true))=true;rw[a81,a81];rfl
  simp only[Ä4,Â1,or_false] at hu;rcases hu with rfl | rfl
  ·exact one x
  ·exact one y
 have e:A40 [b60 x,b60 y]=[b60 (min x y),b60 (max x y)]:=by
  show(if MySort.h40 [(y:Int)] [(x:Int)] then [b60 y,b60 x] else [b60 x,b60 y])=_;rw[z72];by_cases h:(y:Int) < x
  ·rw[decide_eq_true h,if_pos rfl,Ø1 ∅,Nat.max_eq_left ∅]
  ·rw[decide_eq_false h,if_neg (-0),Ù7 ∅,Nat.max_eq_right ∅]
 show(if [b60 x,b60 y].length < 64/\p10 [b60 x,b60 y]=true then some (S.fr (A40 [b60 x,b60 y])) else _)=_;rw[if_pos ⟨by show 2 < 64;decide,ok⟩,e]
theorem w80(k:Nat)(m1:1<=m)(m6:m<=6)(hz:ZI z):W (b40 T (k + 4) k70 [.z,.d (.tup [.int m,t])]) z (λs z1=>ZI z1/\∃ l,s=.d (.tup (l.map b60))/\f30 m l) NE:=by
 have g2:f30 m (î m.toNat):=⟨by intro h;have:=congrArg Ø3 h;rw[ð] at this;simp at this;omega,Ï5,λp hp=>by have:=Æ8.mp hp;omega⟩
 refine k92 hz (ps:=2) (ns:=4) (b:=l00) rfl rfl (-0) ?_
 refine(i30 k 4 hz (-0) (-0)).imp λs z1 ⟨hz1,v,e,v1⟩=>?_
 subst e;refine g32 (λρ z2=>z2=z1/\1 < m/\ρ=[some .z,some (.d (.tup [.int m,t])),some (.d (.int v)),none]) ?_ ?_
 ·refine ib (b:=decide ((v:Int) < 2)) (λh=>?_) λh=>?_
  ·refine(a00 (V00 (m:=m) ∅ ∅) ?_ :)
   exact⟨hz1,_,rfl,g2⟩
  ·refine ib (b:=m == 1) (λh=>?_) λh=>?_
   ·refine(a00 (V00 (m:=m) ∅ ∅) ?_ :)
    exact⟨hz1,_,rfl,g2⟩
   ·have h:=ne_of_beq_false h;exact⟨rfl,by omega,rfl⟩
 ·rintro ρ z2 ⟨rfl,hm,rfl⟩;refine ib (b:=(v:Int) == 2) (λh=>?_) λh=>?_
  ·refine(i30 k m hz1 ∅ ∅).imp λs z3 ⟨hz3,a,e,ha⟩=>?_
   subst e;refine(i30 k (m - 1) hz3 ∅ ∅).imp λs z4 ⟨hz4,b,e,hb⟩=>?_
   subst e;refine(a00 (e61 (i:=(a:Int) + 1 + b) (j:=m) ∅) ?_ :)
   have hq:0<=((a:Int) + 1 + b) % m/\((a:Int) + 1 + b) % m < m/\((a:Int) + 1 + b) % m≠a:=by
    refine⟨Ò5 _ ∅,emod_lt_of_pos _ ∅,?_⟩
    by_cases h:(a:Int) + 1 + b < m
    ·rw[Í4 ∅ h];omega
    ·rw[show(a:Int) + 1 + b=((a:Int) + 1 + b - m) + m from by omega,Int.add_emod_right,Í4 ∅ ∅];omega
   generalize ((a:Int) + 1 + b) % m=q at hq ⊢;obtain⟨q,rfl⟩:=Ï1 hq.1;refine(a00 (f11 a q) ?_ :);refine⟨hz4,[min a q,max a q],rfl,by simp,?_,λp hp=>?_⟩
   ·refine .cons (λx hx=>?_) (.cons (λ_ h=>nomatch h) .nil);rw[Á2.mp hx];omega
   ·simp only[Ä4,Â1,or_false] at hp;rcases hp with rfl | rfl <;> omega
  ·refine(a00 (V00 (m:=m) ∅ ∅) ?_ :)
   refine ip (by rw[Ë,ð];simp only[most];omega) (g82 (I:=ZI) (λx=>x) hz1 (λx hx z3 hz3=>?_) λys z3 hz3 hs=>?_)
   ·refine(i30 k 2 hz3 (-0) (-0)).imp λs z4 ⟨hz4,a,e,a1⟩=>?_
    subst e;exact⟨hz4,(a:Int) == 1,rfl,λ_=>⟨rfl,rfl⟩⟩
   ·rw[List.map_id',R91] at hs;obtain⟨l,rfl,hl⟩:=B71 hs;cases l with
    |nil =>
     refine⟨hz3,[m.toNat - 1],?_,by simp,.cons (λ_ h=>nomatch h) .nil,λq hq=>by rw[Á2.mp hq];omega⟩
     show S.d (.tup [.int (m - 1)])=S.d (.tup [.int ((m.toNat - 1:Nat):Int)]);rw[show(m - 1)=((m.toNat - 1:Nat):Int) by omega]
    |cons p r=>exact⟨hz3,p::r,rfl,by simp,Ó3.sublist hl Ï5,λq hq=>by have:=Æ8.mp (hl.mem hq);omega⟩
section
variable (ps:List (Int × Int))
abbrev tA(n:Nat):Nat:=(ps.getD n (0,0)).1.toNat
abbrev tB(n:Nat):Nat:=(ps.getD n (0,0)).2.toNat
def r71(mk:List Int)(n:Nat):List Int:=mk.map λx=>if x=mk.getD (tB ps n) 0 then mk.getD (tA ps n) 0 else x
def C30(m:Nat)(lot:List Nat):List Int:=lot.foldl (r71 ps) ((î m).map λ(i:Nat)=>(i:Int))
def w52(mk:List Int)(pl:List Nat):Bool:=pl.all λp=>mk.getD p 0 == mk.getD (pl.getD 0 0) 0
def V40(m:Nat)(pl lot:List Nat):Bool:=w52 (C30 ps m lot) pl
variable {ps}
theorem a91(mk:List Int)(n:Nat):(r71 ps mk n).length=mk.length:=Ë _
theorem r81:(C30 ps m lot).length=m:=by
 unfold C30;have:∀ (l:List Nat) (mk:List Int),(l.foldl (r71 ps) mk).length=mk.length:=by
  intro l
  induction l with
  |nil=>intro mk;rfl|cons n r ih=>intro mk;rw[List.foldl_cons,ih,a91]
 rw[this];simp
end
section
variable (g:List Nat->Bool) (c:Nat->Int × Int)
variable {g c}
def h90:Nat->List (List Nat)
 |0=>[[]]|j + 1=>h90 j++(h90 j).map (·++[j])
def amt(c:Nat->Int × Int)(j:Nat)(lot:List Nat):Int:=(î j).foldl (λa n=>a * (if n∈lot then(c n).1 else(c n).2 - (c n).1)) 1
theorem i40:amt c (j + 1) lot=amt c j lot * (if j∈lot then(c j).1 else(c j).2 - (c j).1):=by
 unfold amt;rw[range_succ,List.foldl_append];rfl
theorem S01(h:j<=k):amt c j (lot++[k])=amt c j lot:=by
 induction j with
 |zero=>rfl
 |succ j ih =>
  rw[i40,i40,ih ∅]
  have:j∈lot++[k]↔j∈lot:=by rw[Â0,Á2];constructor <;> (intro h;first | (rcases h with h | h;exact h;omega) | exact .inl h)
  simp only[this]
theorem K00:∀ {j:Nat}{lot:List Nat},lot∈h90 j->∀ n∈lot,n < j
 |0,lot,h,n,hn=>by rw[Á2.mp h] at hn;cases hn
 |j + 1,lot,h,n,hn=>by
  rcases Â0.mp h with h | h
  ·exact Ê0 (K00 h n hn)
  ·obtain⟨l,hl,rfl⟩:=â.mp h;rcases Â0.mp hn with hn | hn
   ·exact Ê0 (K00 hl n hn)
   ·rw[Á2.mp hn];exact Ø2 j
def C60(l:List (List Nat))(f:List Nat->Int):Int:=(l.map f).foldr (· + ·) 0
end
theorem itE{it:It}{e:Ex}{l:List S}{ρ:Env}(h:N50 l=true):k71 it e l ρ=N60 it e l ρ:=by unfold k71;rw[h,N40];rfl
theorem v60:∀ l:List Nat,i50 (l.map b60)=true
 |[]=>rfl|_::r=>v60 r
structure Row(x:D)(lot:List Nat):Prop where
 sq:S30 x=some (lot.map b60)
 br:M21 x=true
theorem Row.t(lot:List Nat):Row (.tup (lot.map b60)) lot:=⟨rfl,v60 lot⟩
theorem Row.ba(h:Row x lot):N50 [.d x]=true:=by
 show(M21 x&&true)=true;rw[h.br];rfl
theorem r91{mk:List Int}{a:Int}(h0:0<=a)(h:a.toNat < mk.length):d71 (.lst (mk.map D.int)) (.int a)=some (.int (mk.getD a.toNat 0)):=by
 obtain⟨n,rfl⟩:=Ï1 h0;rw[À7] at h ⊢;rw[Ü,ø h];exact B31 (R41 h)
theorem i22{ps:List (Int × Int)}{n:Nat}(h:n < ps.length):d71 (.tup (ps.map pr)) (.int n)=some (pr (ps.getD n (0,0))):=by
 rw[Ü,ø h];exact h42 (by rw[Û,ø h];rfl)
theorem getD_mem{ps:List (Int × Int)}{n:Nat}(h:n < ps.length):ps.getD n (0,0)∈ps:=by
 rw[Ü,ø h];exact Ê3 h
theorem c50.rng{m:Int}{ps:List (Int × Int)}(g:c50 m ps):∀ n < ps.length,tA ps n < m.toNat/\tB ps n < m.toNat:=λn hn=>by
 have:=g.tie _ (getD_mem hn);unfold tA tB;omega
def z82(a b:Int):D->D
 |.int v=>.int (if v=b then a else v)|x=>x
theorem S11{F:FT}{z:Z}{mk:List Int}(a b:Int){Q:List D->Z->Prop}{E:Nat->Z->Prop}(q:Q ((mk.map λx=>if x=b then a else x).map D.int) z):W (turns (m10 (ev F .nil) (ev F (.ite (.cmp .eq (.var 0) (.var 2)) (.var 1) (.var 0))) (.v 0) [none,some (.d (.int a)),some (.d (.int b))]) (mk.map D.int)) z Q E:=by
 refine q01 (z82 a b) (λx hx=>?_) ?_
 ·obtain⟨v,_,rfl⟩:=â.mp hx;refine ib (b:=v == b) (λh=>⟨?_,rfl⟩) λh=>⟨?_,rfl⟩
  ·show D.int a=.int (if v=b then a else v);rw[if_pos (beq_iff_eq.mp h)]
  ·show D.int v=.int (if v=b then a else v);rw[if_neg (by simpa using h)]
 ·have e:(mk.map D.int).map (z82 a b)=(mk.map λx=>if x=b then a else x).map D.int:=by rw[ó,ó];rfl
  rw[e];exact q
theorem V50(k:Nat){m:Int}{ps:List (Int × Int)}(g:c50 m ps){x:D}{lot:List Nat}(hx:Row x lot)(hl:∀ n∈lot,n < ps.length)(z:Z):b40 T (k + 3) E50 [.d (x70 m ps),.d x] z=some (.ok (.fr ((C30 ps m.toNat lot).map D.int)) z):=by
 have m6:=g.m6;have m1:=g.m1;refine W.ok (k50 (ps:=2) (ns:=10) (b:=v00) rfl rfl (-0) ?_)
 refine(a00 (o:=lrD [.int m]) (V00 ∅ ∅) ?_ :)
 refine a00 (o:=S30 x) hx.sq ?_;refine I70 (λxs ρ z1=>z1=z/\∃ (rest:List Nat) (mk:List Int) (o5 o6 o7 o8 o9:Option S),xs=rest.map b60/\(∀ n∈rest,n < ps.length)/\mk.length=m.toNat/\rest.foldl (r71 ps) mk=C30 ps m.toNat lot/\ρ=[some (.d (x70 m ps)),some (.d x),some (.d (.int m)),some (.d (.tup (ps.map pr))),some (.fr (mk.map D.int)),o5,o6,o7,o8,o9]) _ ⟨rfl,lot,(î m.toNat).map λ(i:Nat)=>(i:Int),none,none,none,none,none,rfl,hl,by simp,rfl,(itE hx.ba).trans ?_⟩ ?_ ?_
 ·rw[← B21];rfl
 ·rintro y r ρ z1 ⟨rfl,rest,mk,o5,o6,o7,o8,o9,e,hr,hm,hf,rfl⟩;cases rest with
  |nil=>cases e
  |cons n rest =>
   cases e;have hn:=hr n Ð;have ht:=g.tie _ (getD_mem hn);refine(a00 (i22 hn) ?_ :);refine(a00 (r91 (mk:=mk) ht.1 ∅) ?_ :)
   refine(a00 (r91 (mk:=mk) (a:=(ps.getD n (0,0)).2) ∅ ∅) ?_ :)
   refine ip (by rw[Ë];simp only[most];omega) (S11 _ _ ?_)
   exact⟨rfl,rest,r71 ps mk n,_,_,_,_,_,rfl,λk hk=>hr k (Ì _ hk),by rw[a91];exact hm,hf,rfl⟩
 ·rintro ρ z1 ⟨rfl,rest,mk,o5,o6,o7,o8,o9,e,hr,hm,hf,rfl⟩;cases rest with
  |nil=>exact sd (by rw[← hf];rfl)|cons _ _=>cases e
section
variable {m:Int}{ps:List (Int × Int)}{pl lot:List Nat}
theorem i32{mk:List Int}{p:Nat}(h:p < mk.length):d71 (.lst (mk.map D.int)) (.int p)=some (.int (mk.getD p 0)):=r91 (a:=(p:Int)) ∅ (by rw[À7];exact h)
theorem i42(h:pl≠[]):d71 (.tup (pl.map b60)) (.int 0)=some (b60 (pl.getD 0 0)):=by
 cases pl with
 |nil=>exact absurd rfl h|cons p r=>exact h42 (j:=0) rfl
theorem f30.p0(hp:f30 m pl):pl.getD 0 0 < m.toNat:=by
 have h:=hp.ne;have h2:=hp.lt;cases pl with
 |nil=>exact absurd rfl h|cons p r=>have:=h2 p Ð;show p < _;omega
def eqM(mk:List Int)(p0:Nat):D->Bool
 |.int p=>mk.getD p.toNat 0 == mk.getD p0 0|_=>false
theorem S21(l:List Nat):(l.map b60).all (eqM mk p0)=l.all λp=>mk.getD p 0 == mk.getD p0 0:=by rw[all_map];rfl
theorem K10(k:Nat)(g:c50 m ps)(hp:f30 m pl){x:D}(hx:Row x lot)(hl:∀ n∈lot,n < ps.length)(z:Z):b40 T (k + 4) w30 [.d (x70 m ps),.d x,.d (.tup (pl.map b60))] z=some (.ok (.d (.bl (V40 ps m.toNat pl lot))) z):=by
 have hlen:=hp.len g.m6;refine W.ok (k50 (ps:=3) (ns:=4) (b:=m90) rfl rfl (-0) (Wo (V50 k g hx hl z) ?_))
 have ml:(C30 ps m.toNat lot).length=m.toNat:=r81;generalize hmk:C30 ps m.toNat lot=mk at ml;refine ip (by rw[Ë];simp only[most];omega) (q01 (λx=>.bl (eqM mk (pl.getD 0 0) x)) (λy hy=>?_) (a00 (E80 _ (eqM mk (pl.getD 0 0))) ?_ :))
 ·obtain⟨p,hp',rfl⟩:=â.mp hy;have:=hp.lt p hp';refine(a00 (i32 (mk:=mk) (p:=p) ∅) ?_ :)
  refine(a00 (i42 hp.ne) ?_ :);refine(a00 (i32 (mk:=mk) (by rw[ml];exact hp.p0)) ?_ :)
  exact⟨rfl,rfl⟩
 ·refine sb (b:=(pl.map b60).all (eqM mk (pl.getD 0 0))) ?_;rw[S21,← hmk];rfl
end
def k00(l:List Nat):D:=.tup (l.map b60)
theorem y70:∀ {j:Nat}{lot:List Nat},lot∈h90 j->lot.length<=j
 |0,lot,h=>by rw[Á2.mp h];exact È _
 |j + 1,lot,h=>by
  rcases Â0.mp h with h | h
  ·exact Nat.le_succ_of_le (y70 h)
  ·obtain⟨l,hl,rfl⟩:=â.mp h;rw[w32];exact Ø0 (y70 hl)
theorem y80:∀ j:Nat,(h90 j).length=2 ^ j
 |0=>rfl
 |j + 1=>by
  show(h90 j++(h90 j).map (·++[j])).length=_;rw[Ã1,Ë,y80 j,Õ6];omega
theorem s01(h:j<=8):2 ^ j<=256:=À0 (n:=2) (-0) h
theorem add_l(h:a.length + b.length<=1000):u50 .add (.lst a) (.lst b)=some (.fr (a++b)):=by
 show(if a.length + b.length<=most then some (S.fr (a++b)) else none)=_;rw[if_pos (C10 h)]
theorem w62(h:a.length + b.length<=1000):u50 .add (.tup a) (.tup b)=some (.d (.tup (a++b))):=by
 show(if a.length + b.length<=most then some (S.d (.tup (a++b))) else none)=_;rw[if_pos (C10 h)]
def z92(j:Nat):D->D
 |.tup l=>.tup (l++[b60 j])|x=>x
theorem B81:((h90 j).map k00).map (z92 j)=((h90 j).map (·++[j])).map k00:=by
 rw[ó,ó];refine Ã4 λl _=>?_;show D.tup (l.map b60++[b60 j])=.tup ((l++[j]).map b60);rw[Ê4];rfl
theorem s11{n:Nat}(h:n < 100000):itD .rng1 [.int n]=some ((Á4 0 n).map b60):=by
 rw[V00 ∅ ∅,À7,Ê9];rfl
abbrev cf(cs:List (Int × Int))(n:Nat):Int × Int:=cs.getD n (0,1)
def o80(cs:List (Int × Int)):Int:=(cs.map (·.2)).foldr (· * ·) 1
theorem K20:∀ {cs:List (Int × Int)},(∀ c∈cs,IsC c)->0 < o80 cs/\o80 cs<=2 ^ (10 * cs.length)
 |[],_=>by decide
 |c::r,h=>by
  obtain⟨h1,h2⟩:=K20 λd hd=>h d (Ì _ hd);obtain⟨c1,c2,_⟩:=h c Ð;refine⟨È3 (show(0:Int) < c.2 by omega) h1,?_⟩
  show c.2 * o80 r<=_;rw[Ø,Nat.mul_add,pow_add,Ë7];exact Û1 h2 ∅ ∅ (by have:=Ð4 (Ë8 h1) h2;exact this)
theorem IsC.w(h:IsC c)(b:Prop)[Decidable b]:0<=(if b then c.1 else c.2 - c.1)/\(if b then c.1 else c.2 - c.1)<=1000:=by
 obtain⟨c1,c2,c3,c4,_⟩:=h;split <;> omega
theorem i52(ha:∀ c∈cs,IsC c)(h:n < cs.length):IsC (cf cs n):=ha _ (by rw[cf,Ü,ø h];exact Ê3 h)
theorem G81(ha:∀ c∈cs,IsC c):∀ {j:Nat},j<=cs.length->0<=amt (cf cs) j lot/\amt (cf cs) j lot<=2 ^ (10 * j)
 |0,_=>by show(0:Int)<=1/\(1:Int)<=1;omega
 |j + 1,h=>by
  obtain⟨h1,h2⟩:=G81 (lot:=lot) ha (j:=j) ∅
  obtain⟨w1,w2⟩:=(i52 ha (n:=j) ∅).w (j∈lot)
  rw[i40];refine⟨Int.mul_nonneg h1 w1,?_⟩;rw[Nat.mul_add,pow_add];exact Û1 h2 ∅ w1 (by have:=Ð4 h1 h2;exact this)
theorem b01(n:Nat):∀ l:List Nat,memD (b60 n) (l.map b60)=decide (n∈l)
 |[]=>rfl
 |x::r=>by
  show((x:Int) == (n:Int) || memD (b60 n) (r.map b60))=_;rw[b01 n r,Ä0,Ã3,beq_iff_eq,decide_eq_true_eq,decide_eq_true_eq,Ä4];constructor
  ·rintro (h | h)
   ·exact .inl ∅
   ·exact .inr h
  ·rintro (h | h)
   ·exact .inl ∅
   ·exact .inr h
theorem s21(l:List Nat):T61 (l.map b60)=true:=by
 have e:l.map b60=(l.map λ(n:Nat)=>(n:Int)).map D.int:=by rw[ó];rfl
 obtain⟨h1,h2⟩:=V10 (l.map λ(n:Nat)=>(n:Int));unfold T61;rw[e,h1,h2];rfl
theorem S31{n:Nat}{l:List Nat}:T71 (b60 n) (l.map b60)=some (decide (n∈l)):=by
 unfold T71;rw[s21,b01];rfl
section
variable {m:Int}{ps cs:List (Int × Int)}{pl:List Nat}
def b11(m:Int)(ps cs:List (Int × Int))(pl:List Nat):Int × Int:=h50 (C60 (h90 ps.length) λlot=>if V40 ps m.toNat pl lot then amt (cf cs) ps.length lot else 0) (o80 cs)
end
theorem s31(h0:0 < b):(h50 t b).1 * b=(h50 t b).2 * t:=by
 obtain⟨e1,e2⟩:=J70 (t:=t) h0;generalize (h50 t b).1=x at *
 generalize (h50 t b).2=y at *
 generalize ((gcd t b:Nat):Int)=k at *
 rw[e1,e2]
 grind
def D20(k:Nat):List (List Nat):=(TS.sN k).map (TS.A10 k 0)
theorem Q20(h:k<=8):h90 k=(î (2 ^ k)).map (TS.A10 k 0):=by
 have:∀ k,k < 9->h90 k=(î (2 ^ k)).map (TS.A10 k 0):=by decide +kernel
 exact this k ∅
theorem n30(h:k<=8):(D20 k).Perm (h90 k):=by
 have:∀ k,k < 9->(TS.sN k).isPerm (î (2 ^ k))=true:=by decide +kernel
 rw[Q20 h];exact(List.isPerm_iff.mp (this k ∅)).map _
theorem i62(h:k<=8):(h90 k).map k00=g20 k:=by
 rw[Q20 h];unfold g20;rw[ó];rfl
theorem V60(h:k<=8):bfD .sorted [.lst ((h90 k).map k00)]=some (.fr ((D20 k).map k00)):=by
 have h1:∀ k,k < 9->p10 (g20 k)=false:=by decide +kernel
 have h2:∀ k,k < 9->((î 9).find? λj=>Q60 (g20 k) (g20 j))=some k:=by decide +kernel
 rw[i62 h];show(if (g20 k).length < 64/\p10 (g20 k)=true then some (S.fr (A40 (g20 k))) else((((î 9).find? λj=>Q60 (g20 k) (g20 j)).map y41).map S.fr))=_;rw[if_neg (λq=>by rw[h1 k ∅] at q;cases q.2),h2 k ∅]
 show some (S.fr (y41 k))=some (S.fr ((D20 k).map k00));rw[D20,ó];rfl
theorem B91{i:Nat}(hi:T[i]?=some (.code 1 3 o50))(k:Nat){m:Int}{ts:List D}(h8:ts.length<=8)(z:Z):b40 T (k + 3) i [.d (.tup [.int m,.tup ts])] z=some (.ok (.fr ((D20 ts.length).map k00)) z):=by
 refine W.ok (k50 (ps:=1) (ns:=3) (b:=o50) hi rfl (-0) ?_)
 refine(a00 (s11 (n:=ts.length) ∅) ?_ :)
 refine I70 (λxs ρ z1=>z1=z/\∃ (j r:Nat) (o2:Option S),j + r=ts.length/\xs=(Á4 j r).map b60/\ρ=[some (.d (.tup [.int m,.tup ts])),some (.fr ((h90 j).map k00)),o2]) _ ⟨rfl,0,ts.length,none,Nat.zero_add _,rfl,rfl⟩ ?_ ?_
 ·rintro x r ρ z1 ⟨rfl,j,r',o2,hj,e,rfl⟩;cases r' with
  |zero=>cases e
  |succ r' =>
   rw[Ä9] at e;cases e;have hp:=s01 (j:=j) ∅
   refine ip (by rw[Ë,y80];simp only[most];omega) (q01 (z92 j) (λy hy=>?_) ?_)
   ·obtain⟨l,hl,rfl⟩:=â.mp hy;have:=y70 hl;refine(a00 (w62 (a:=l.map b60) (b:=[b60 j]) (by rw[Ë];show _ + 1<=_;omega)) ?_ :)
    exact⟨rfl,rfl⟩
   ·rw[B81];refine(a00 (add_l (a:=(h90 j).map k00) (b:=((h90 j).map (·++[j])).map k00) (by rw[Ë,Ë,Ë,y80];omega)) ?_ :)
    refine⟨rfl,j + 1,r',some (.d (b60 j)),by omega,rfl,?_⟩
    exact congrArg (λl=>[some (S.d (.tup [.int m,.tup ts])),some (.fr l),some (.d (b60 j))]) Ê4.symm
 ·rintro ρ z1 ⟨rfl,j,r',o2,hj,e,rfl⟩;cases r' with
  |zero =>
   have hj:j=ts.length:=hj;subst hj;refine(a00 (V60 h8) ?_ :);exact sd rfl
  |succ r'=>rw[Ä9] at e;cases e
theorem V70(k:Nat){m:Int}{ts:List D}(h8:ts.length<=8)(z:Z):b40 T (k + 3) E60 [.d (.tup [.int m,.tup ts])] z=some (.ok (.fr ((D20 ts.length).map k00)) z):=B91 rfl k h8 z
def Q30:D->List Nat
 |.tup l=>l.map λx=>match x with | .int i=>i.toNat | _=>0
 |_=>[]
theorem y90(l:List Nat):Q30 (k00 l)=l:=by
 show(l.map b60).map _=l;rw[ó];exact map_id l
theorem S41(h:k<=8)(hl:lot∈D20 k):∀ n∈lot,n < k:=K00 ((n30 h).mem_iff.mp hl)
theorem K30(h:k<=8):(D20 k).length<=256:=by rw[(n30 h).length_eq,y80];exact s01 h
section
variable {m:Int}{ps cs:List (Int × Int)}{pl:List Nat}
abbrev e30(m:Int)(ps:List (Int × Int))(pl:List Nat):List (List Nat):=(D20 ps.length).filter (V40 ps m.toNat pl)
theorem n40(k:Nat)(g:c50 m ps)(hp:f30 m pl)(z:Z):b40 T (k + 9) k60 [.d (x70 m ps),.d (.tup (pl.map b60))] z=some (.ok (.fr ((e30 m ps pl).map k00)) z):=by
 have h8:=g.len;have h6:=hp.len g.m6;refine W.ok (k50 (ps:=2) (ns:=2) (b:=q80) rfl rfl (-0) (Wo (f60 k z g.web) (Wo (d00 (k + 2) (t:=.tup (ps.map pr)) z hp.pls (decide_eq_true (by rw[Ë];omega))) (Wo (V70 (k + 5) (m:=m) (ts:=ps.map pr) (by rw[Ë];exact h8) z) ?_))))
 rw[Ë];refine ip (by rw[Ë];exact C10 (Ò (K30 h8) (-0))) (z52 (λx=>V40 ps m.toNat pl (Q30 x)) id (λx hx=>?_) ?_)
 ·obtain⟨l,hl,rfl⟩:=â.mp hx;refine Wo (K10 (k + 4) g hp (Row.t l) (S41 h8 hl) z) ⟨?_,rfl,λ_=>⟨rfl,rfl⟩⟩;rw[y90]
 ·refine sd ?_;rw[map_id,List.filter_map];have:(D20 ps.length).filter ((λx=>V40 ps m.toNat pl (Q30 x)) ∘ k00)=e30 m ps pl:=List.filter_congr λl _=>by show V40 ps m.toNat pl (Q30 (k00 l))=_;rw[y90]
  rw[this]
theorem f21(k:Nat)(hl:cs.length<=8)(ha:∀ c∈cs,IsC c)(lot:List Nat)(z:Z):b40 T (k + 3) P20 [.d (.tup (cs.map pr)),.d (k00 lot)] z=some (.ok (.d (.int (amt (cf cs) cs.length lot))) z):=by
 refine W.ok (k50 (ps:=2) (ns:=6) (b:=C00) rfl rfl (-0) ?_)
 refine I70 (λxs ρ z1=>z1=z/\∃ (j:Nat) (o3 o4 o5:Option S),j<=cs.length/\xs=r90 ((cs.drop j).map pr) j/\ρ=[some (.d (.tup (cs.map pr))),some (.d (k00 lot)),some (.d (.int (amt (cf cs) j lot))),o3,o4,o5]) _ ⟨rfl,0,none,none,none,Ä3 _,rfl,(itE (by show(i50 _&&true)=true;rw[J50];rfl)).trans rfl⟩ ?_ ?_
 ·rintro x r ρ z1 ⟨rfl,j,o3,o4,o5,hj,e,rfl⟩;by_cases h:j < cs.length
  ·rw[Ç2 h] at e;cases e;have ec:cs[j]=cf cs j:=by rw[cf,Ü,ø h];rfl
   rw[ec];obtain⟨a1,a2⟩:=G81 (lot:=lot) ha (j:=j) ∅
   refine(a00 (S31 (n:=j) (l:=lot)) ?_ :);have fin:∀ w:Int,0<=w->w<=1000->w=(if j∈lot then(cf cs j).1 else(cf cs j).2 - (cf cs j).1)->u50 .mul (.int (amt (cf cs) j lot)) (.int w)=some (.d (.int (amt (cf cs) (j + 1) lot))):=λw w0 w1 e=>by
    rw[h92 a1 (V30 (n:=10 * j) ∅ a2) w0 (t40 ∅),i40,e]
   obtain⟨w1,w2⟩:=(i52 ha h).w (j∈lot);refine ib (b:=decide (j∈lot)) (λhm=>?_) λhm=>?_
   ·rw[decide_eq_true_eq] at hm;rw[if_pos hm] at w1 w2;refine(a00 (fin _ w1 w2 (by rw[if_pos hm])) ?_ :)
    exact⟨rfl,j + 1,_,_,_,h,rfl,rfl⟩
   ·rw[decide_eq_false_iff_not] at hm;rw[if_neg hm] at w1 w2;refine(a00 (fin _ w1 w2 (by rw[if_neg hm])) ?_ :)
    exact⟨rfl,j + 1,_,_,_,h,rfl,rfl⟩
  ·rw[Ü2 ∅] at e;cases e
 ·rintro ρ z1 ⟨rfl,j,o3,o4,o5,hj,e,rfl⟩;by_cases h:j < cs.length
  ·rw[Ç2 h] at e;cases e
  ·have hj:j=cs.length:=by omega
   subst hj;exact sd rfl
theorem D30(k:Nat)(hl:cs.length<=8)(ha:∀ c∈cs,IsC c)(z:Z):b40 T (k + 3) t10 [.d (.tup (cs.map pr))] z=some (.ok (.d (.int (o80 cs))) z):=by
 obtain⟨b0,b1⟩:=K20 ha;refine W.ok (k50 (ps:=1) (ns:=3) (b:=k90) rfl rfl (-0) ?_)
 refine I70 (λxs ρ z2=>z2=z/\∃ (rest:List (Int × Int)) (b:Int) (o:Option S),xs=rest.map pr/\(∀ c∈rest,IsC c)/\0 < b/\b * o80 rest=o80 cs/\ρ=[some (.d (.tup (cs.map pr))),some (.d (.int b)),o]) _ ⟨rfl,cs,1,none,rfl,ha,by decide,one_mul _,(itE (by show(i50 _&&true)=true;rw[J50];rfl)).trans rfl⟩ ?_ ?_
 ·rintro x r ρ z2 ⟨rfl,rest,b,o,e,hr,hb,ht,rfl⟩;cases rest with
  |nil=>cases e
  |cons c rest =>
   cases e;have hc':=hr c Ð;have hr':∀ c∈rest,IsC c:=λd hd=>hr d (Ì _ hd);have ht':b * (c.2 * o80 rest)=o80 cs:=ht;have p0:=(K20 hr').1;have hle:b<=o80 cs:=by
    rw[← ht'];have h1:0 < c.2 * o80 rest:=È3 (by have:=hc'.1;omega) p0
    have:b * 1<=b * (c.2 * o80 rest):=Ø9 ∅ ∅
    omega
   refine(a00 (h92 (i:=b) (j:=c.2) ∅ (V30 (n:=10 * cs.length) ∅ (Ð4 hle b1)) (by have:=hc'.1;omega) (t40 (by have:=hc'.2.1;omega))) ?_ :)
   exact⟨rfl,rest,b * c.2,_,rfl,hr',È3 hb (by have:=hc'.1;omega),by rw[Int.mul_assoc];exact ht',rfl⟩
 ·rintro ρ z2 ⟨rfl,rest,b,o,e,hr,hb,ht,rfl⟩;cases rest with
  |cons _ _=>cases e
  |nil =>
   have ht:b * 1=o80 cs:=ht;rw[mul_one] at ht;subst ht;exact sd rfl
theorem sum_ints(f:List Nat->Int):∀ ls:List (List Nat),Q70 ((ls.map k00).map λx=>.int (f (Q30 x)))=some (C60 ls f)
 |[]=>rfl
 |l::r=>by
  show(Q70 ((r.map k00).map λx=>.int (f (Q30 x)))).map (f (Q30 (k00 l)) + ·)=_;rw[sum_ints f r,y90];rfl
theorem K40(k:Nat)(hl:cs.length<=8)(ha:∀ c∈cs,IsC c)(hls:ls.length<=256)(z:Z):b40 T (k + 5) m80 [.d (.tup (cs.map pr)),.d (.lst (ls.map k00))] z=some (.ok (.d (pr (h50 (C60 ls (amt (cf cs) cs.length)) (o80 cs)))) z):=by
 obtain⟨b0,b1⟩:=K20 ha;refine W.ok (k50 (ps:=2) (ns:=2) (b:=n20) rfl rfl (-0) ?_)
 refine ip (by rw[Ë];exact C10 ∅) (q01 (λx=>.int (amt (cf cs) cs.length (Q30 x))) (λx hx=>?_) ?_)
 ·obtain⟨l,_,rfl⟩:=â.mp hx;refine Wo (f21 (k + 1) hl ha l z) ⟨?_,rfl⟩;rw[y90]
 ·refine(a00 (o:=bfD .sum [.lst _]) (a:=.d (.int (C60 ls (amt (cf cs) cs.length)))) (by show(((S30 (.lst _)).bind Q70).map _)=_;show(Q70 _).map _=_;rw[sum_ints];rfl) ?_ :)
  exact Wo (D30 (k + 1) hl ha z) (Wo (C20 k _ _ z b0 (V30 (n:=10 * cs.length) ∅ b1)) (sd rfl))
theorem Q40(h:a.Perm b):C60 a f=C60 b f:=by
 unfold C60;exact(h.map f).foldr_eq' (λx _ y _ z=>by omega) 0
theorem C40(g:List Nat->Bool)(f:List Nat->Int):∀ a:List (List Nat),C60 (a.filter g) f=C60 a λl=>if g l then f l else 0
 |[]=>rfl
 |x::r=>by
  have ih:=C40 g f r;show _=(if g x=true then f x else 0) + C60 r _;rw[filter_cons,← ih];cases g x with
  |true=>rfl|false=>show _=0 + _;rw[Õ8];rfl
theorem K50(k:Nat)(g:c50 m ps)(hc:cs.length=ps.length)(ha:∀ c∈cs,IsC c)(z:Z):b40 T (k + 5) m80 [.d (.tup (cs.map pr)),.d (.lst ((e30 m ps pl).map k00))] z=some (.ok (.d (pr (b11 m ps cs pl))) z):=by
 have h8:=g.len;rw[K40 k ∅ ha (Ò (Ð8 _ _) (K30 h8)) z,C40,Q40 (n30 h8),hc]
 rfl
theorem C01(k:Nat)(g:c50 m ps)(hp:f30 m pl)(hc:cs.length=ps.length)(ha:∀ c∈cs,IsC c)(z:Z):b40 T (k + 11) q31 [.d (x70 m ps),.d (.tup (cs.map pr)),.d (.tup (pl.map b60))] z=some (.ok (.d (pr (b11 m ps cs pl))) z):=by
 have h6:=hp.len g.m6;exact W.ok (k50 (ps:=3) (ns:=3) (b:=U70) rfl rfl (-0) (Wo (x60 k (m:=m) (ts:=ps.map pr) g.web z (i02 (by rw[Ë];exact hc) ha)) (Wo (d00 (k + 4) (t:=.tup (ps.map pr)) z hp.pls (decide_eq_true (by rw[Ë];omega))) (Wo (n40 (k + 1) g hp z) (Wo (K50 (k + 5) g hc ha z) (sd rfl))))))
end
def tl:Sm->Sm
 |.seq _ r=>r|s=>s
structure Bs(n:Nat)(c:Int × Int):Prop where
 t:c.1.natAbs<=2 ^ n
 b0:0 < c.2
 b:c.2.natAbs<=2 ^ n
theorem K60(h:n<=3999)(hi:i<=2 ^ n):i < D80:=Ì5 hi (Nat.pow_lt_pow_right (-0) ∅)
theorem V80(h:n<=3999)(hi:i.natAbs<=2 ^ n)(hj:j.natAbs<=2 ^ n):u50 .mul (.int i) (.int j)=some (.d (.int (i * j))):=by
 show(if i.natAbs < D80/\j.natAbs < D80 then some (S.d (.int (i * j))) else none)=_;rw[if_pos ⟨K60 h hi,K60 h hj⟩]
theorem r30{n m:Nat}{i j:Int}(hi:i.natAbs<=2 ^ n)(hj:j.natAbs<=2 ^ m):(i * j).natAbs<=2 ^ (n + m):=by
 rw[natAbs_mul,Nat.pow_add];exact Nat.mul_le_mul hi hj
theorem s41(h:n<=3999)(hi:i.natAbs<=2 ^ n):big i:=by
 have:=K60 h hi;show i < 2 ^ 4000;have e:((D80:Nat):Int)=2 ^ 4000:=by unfold D80;exact Ò4 2 4000
 rw[← e];omega
theorem IsC.s(h:IsC c):Bs 10 c:=by
 obtain⟨h1,h2,h3,h4,_⟩:=h;exact⟨by show _<=1024;omega,by omega,by show _<=1024;omega⟩
theorem i72(k:Nat)(hc:Bs n c)(hd:Bs n d)(hn:n + n<=3999)(z:Z):b40 T (k + 5) G31 [.d (pr c),.d (pr d)] z=some (.ok (.d (pr (h50 (c.1 * d.2 + d.1 * c.2) (c.2 * d.2)))) z):=by
 have h1:n<=3999:=by omega
 refine W.ok (k50 (ps:=2) (ns:=2) (b:=q41) rfl rfl (-0) ?_)
 refine(a00 (V80 h1 hc.t hd.b) ?_ :);refine(a00 (V80 h1 hd.t hc.b) ?_ :);refine(a00 (V80 h1 hc.b hd.b) ?_ :);exact Wo (C20 k _ _ z (È3 hc.b0 hd.b0) (s41 hn (r30 hc.b hd.b))) (sd rfl)
theorem s51(h0:0 < b):(h50 t b).1.natAbs<=t.natAbs/\(h50 t b).2.natAbs<=b.natAbs:=by
 obtain⟨e1,e2⟩:=J70 (t:=t) h0;have g0:=r20 (t:=t) h0;generalize h50 t b=v at *
 generalize hg:gcd t b=g at *
 have g1:1<=g:=by omega
 constructor
 ·rw[e1,natAbs_mul,Int.natAbs_natCast];exact Ü5 _ g1
 ·rw[e2,natAbs_mul,Int.natAbs_natCast];exact Ü5 _ g1
theorem F10(k:Nat)(hc:Bs n c)(hd:Bs n d)(hn:n<=3999)(z:Z):b40 T (k + 3) B80 [.d (pr c),.d (pr d)] z=some (.ok (.d (.bl (decide (c.1 * d.2 < d.1 * c.2)))) z):=by
 refine W.ok (k50 (ps:=2) (ns:=2) (b:=B90) rfl rfl (-0) ?_)
 refine(a00 (V80 hn hc.t hd.b) ?_ :);refine(a00 (V80 hn hd.t hc.b) ?_ :);exact sd rfl
theorem C50(k:Nat)(z:Z)(h:chD x=true):b40 T (k + 5) p30 [.d x] z=some (.ok (.d .non) z) :=
 W.ok (k50 (ps:=1) (ns:=1) (b:=i90) rfl rfl (-0) (Wo (w70 k x z) (ie (b:=!chD x) (by rw[h];rfl) (sd rfl))))
structure Rt(v:Int × Int)(t b:Int):Prop where
 b0:0 < v.2
 one:gcd v.1 v.2=1
 eq:v.1 * b=t * v.2
theorem Rt.low{t b:Int}(hb:0 < b):Rt (h50 t b) t b:=⟨J80 hb,r51 hb,by rw[s31 hb,Ë7]⟩
theorem Rt.conv{v:Int × Int}{t b t' b':Int}(h:Rt v t b)(hb:0 < b)(e:t * b'=t' * b):Rt v t' b':=by
 refine⟨h.b0,h.one,Æ9 (a:=b) ∅ ?_⟩
 have:=h.eq
 calc v.1 * b' * b=(v.1 * b) * b':=by grind
  _=(t * b') * v.2:=by rw[this];grind
  _=t' * v.2 * b:=by rw[e];grind
theorem Rt.eqv{v w:Int × Int}{t b:Int}(hv:Rt v t b)(hw:Rt w t b)(hb:0 < b):v=w:=by
 have e:v.1 * w.2=w.1 * v.2:=by
  have h1:=hv.eq;have h2:=hw.eq;refine Æ9 (a:=b) ∅ ?_
  calc v.1 * w.2 * b=(v.1 * b) * w.2:=by grind
   _=(t * w.2) * v.2:=by rw[h1];grind
   _=w.1 * v.2 * b:=by rw[← h2];grind
 obtain⟨a,b'⟩:=f01 hv.b0 hw.b0 hv.one hw.one e;exact Prod.ext a b'
theorem Rt.add{v w:Int × Int}{t b t' b':Int}(hv:Rt v t b)(hw:Rt w t' b'):Rt (h50 (v.1 * w.2 + w.1 * v.2) (v.2 * w.2)) (t * b' + t' * b) (b * b'):=by
 have y:=È3 hv.b0 hw.b0;refine(Rt.low y).conv y ?_;have h1:=hv.eq;have h2:=hw.eq
 calc (v.1 * w.2 + w.1 * v.2) * (b * b')=(v.1 * b) * (w.2 * b') + (w.1 * b') * (v.2 * b):=by grind
  _=(t * b' + t' * b) * (v.2 * w.2):=by rw[h1,h2];grind
theorem Rt.mul{v w:Int × Int}{t b t' b':Int}(hv:Rt v t b)(hw:Rt w t' b'):Rt (h50 (v.1 * w.1) (v.2 * w.2)) (t * t') (b * b'):=by
 have y:=È3 hv.b0 hw.b0;refine(Rt.low y).conv y ?_;have h1:=hv.eq;have h2:=hw.eq
 calc v.1 * w.1 * (b * b')=(v.1 * b) * (w.1 * b'):=by grind
  _=t * t' * (v.2 * w.2):=by rw[h1,h2];grind
theorem IsC.rt{c:Int × Int}(h:IsC c):Rt c c.1 c.2:=⟨by have:=h.1;omega,h.2.2.2.2,rfl⟩
theorem I02:IsC (1,1):=⟨by decide,by decide,by decide,by decide,by decide⟩
theorem I12:IsC (0,1):=⟨by decide,by decide,by decide,by decide,by decide⟩
theorem Bs.up{n m:Nat}{c:Int × Int}(h:Bs n c)(hm:n<=m):Bs m c :=
 have e:=À0 (n:=2) (-0) hm
 ⟨Ò h.t e,h.b0,Ò h.b e⟩
theorem Bs.low{n:Nat}{t b:Int}(h0:0 < b)(ht:t.natAbs<=2 ^ n)(hb:b.natAbs<=2 ^ n):Bs n (h50 t b) :=
 ⟨Ò (s51 h0).1 ht,J80 h0,Ò (s51 h0).2 hb⟩
theorem Bs.mul{n:Nat}{c d:Int × Int}(hc:Bs n c)(hd:Bs n d):Bs (n + n) (h50 (c.1 * d.1) (c.2 * d.2)):=.low (È3 hc.b0 hd.b0) (r30 hc.t hd.t) (r30 hc.b hd.b)
theorem w72(a:Int × Int):(!((a.1 == a.1)&&((a.2 == a.2)&&true)))=false:=by rw[beq_self_eq_true,beq_self_eq_true];rfl
def o60(f:Nat->Int):Nat->Int
 |0=>0|n + 1=>o60 f n + f n
theorem g50:∀ {n:Nat},(∀ i < n,f i=g i)->o60 f n=o60 g n
 |0,_=>rfl
 |n + 1,h=>by
  show o60 f n + f n=o60 g n + g n;rw[g50 λi hi=>h i ∅,h n ∅]
theorem K70:∀ n:Nat,o60 (λi=>f i + g i) n=o60 f n + o60 g n
 |0=>rfl
 |n + 1=>by
  show o60 (λi=>f i + g i) n + (f n + g n)=(o60 f n + f n) + (o60 g n + g n);rw[K70 n];omega
theorem b21(k:Int):∀ n:Nat,o60 (λi=>k * f i) n=k * o60 f n
 |0=>(Ð3 k).symm
 |n + 1=>by
  show o60 (λi=>k * f i) n + k * f n=k * (o60 f n + f n);rw[b21 k n,Int.mul_add]
theorem K80:∀ {n:Nat},i < n->o60 (λj=>if j=i then v else 0) n=v
 |n + 1,h=>by
  show o60 (λj=>if j=i then v else 0) n + (if n=i then v else 0)=v;by_cases e:n=i
  ·subst e;rw[if_pos rfl];have:o60 (λj=>if j=n then v else 0) n=0:=by
    have z:o60 (λj=>if j=n then v else 0) n=o60 (λ_=>0) n:=g50 λj hj=>if_neg ∅
    have z2:∀ k,o60 (λ_=>0) k=0:=λk=>by
     induction k with
     |zero=>rfl|succ k ih=>show o60 (λ_=>0) k + 0=0;rw[ih];rfl
    rw[z,z2]
   rw[this];omega
  ·rw[if_neg e,K80 (n:=n) ∅];omega
def cnt(ls:List (List Nat))(j:Nat):Int:=((ls.filter λl=>l.length == j).length:Nat)
theorem cnt_cons(l:List Nat)(r:List (List Nat))(j:Nat):cnt (l::r) j=cnt r j + if j=l.length then 1 else 0:=by
 unfold cnt;rw[filter_cons];by_cases h:j=l.length
 ·rw[if_pos h,h,beq_self_eq_true,if_pos rfl,Ø];omega
 ·rw[if_neg h,beq_eq_false_iff_ne.mpr (À4 h),if_neg (-0)];omega
theorem G91(ls:List (List Nat))(j:Nat):0<=cnt ls j/\cnt ls j<=ls.length:=by
 unfold cnt;have:=Ð8 (λl=>l.length == j) ls;omega
theorem s61(h:Nat->Int):∀ {ls:List (List Nat)},(∀ l∈ls,l.length < n)->o60 (λj=>cnt ls j * h j) n=C60 ls λl=>h l.length
 |[],_=>by
  have:∀ k,o60 (λj=>cnt [] j * h j) k=0:=λk=>by
   induction k with
   |zero=>rfl|succ k ih=>show o60 (λj=>cnt [] j * h j) k + 0 * h k=0;rw[ih,Ï2];rfl
  rw[this];rfl
 |l::r,hl=>by
  have ih:=s61 h (n:=n) λx hx=>hl x (Ì _ hx);have e:o60 (λj=>cnt (l::r) j * h j) n=o60 (λj=>cnt r j * h j + (if j=l.length then h l.length else 0)) n:=g50 λj _=>by
   rw[cnt_cons,Int.add_mul];by_cases e:j=l.length
   ·rw[if_pos e,if_pos e,one_mul,e]
   ·rw[if_neg e,if_neg e,Ï2]
  rw[e,K70,ih,K80 (hl l Ð)];show _=h l.length + C60 r _;omega
def lag(f:Nat->Int)(j:Nat):Int:=f j - if j=0 then 0 else f (j - 1)
def e90(c:Nat->Int):Nat->Nat->Int
 |0,_=>0|k + 1,j=>lag (e90 c k) j + if j=k then c k else 0
theorem h30(c:Nat->Int):∀ (k j:Nat),k<=j->e90 c k j=0
 |0,_,_=>rfl
 |k + 1,j,h=>by
  show lag (e90 c k) j + (if j=k then c k else 0)=0;unfold lag;rw[h30 c k j ∅,if_neg ∅,if_neg ∅,h30 c k (j - 1) ∅];rfl
theorem V90(hc:∀ i,0<=c i/\c i<=256):∀ k j,(e90 c k j).natAbs<=256 * (2 ^ k - 1)
 |0,_=>by show(0:Int).natAbs<=_;decide
 |k + 1,j=>by
  show(lag (e90 c k) j + (if j=k then c k else 0)).natAbs<=_;have h1:=V90 hc k j;have h2:(if j=0 then(0:Int) else e90 c k (j - 1)).natAbs<=256 * (2 ^ k - 1):=by
   split
   ·exact Ä3 _
   ·exact V90 hc k (j - 1)
  have h3:(if j=k then c k else 0).natAbs<=256:=by
   have:=hc k;split <;> omega
  have h4:(lag (e90 c k) j).natAbs<=256 * (2 ^ k - 1) + 256 * (2 ^ k - 1):=Ò (Int.natAbs_sub_le _ _) (Û0 h1 h2);refine Ò (Ò (Int.natAbs_add_le _ _) (Û0 h4 h3)) ?_;have hp:0 < 2 ^ k:=Nat.pow_pos (-0)
  rw[Õ6];generalize 2 ^ k=P at hp;clear h1 h2 h3 h4;omega
section
variable (t b:Int)
def evN(K:Nat)(f:Nat->Int)(n:Nat):Int:=o60 (λj=>f j * (t ^ j * b ^ (K - j))) n
theorem H01:∀ n,n<=K + 1->b * evN t b K (lag f) n=(b - t) * evN t b K f n + (if n=0 then 0 else f (n - 1) * (t ^ n * b ^ (K + 1 - n)))
 |0,_=>by unfold evN o60;simp
 |n + 1,h=>by
  have ih:=H01 (K:=K) (f:=f) n ∅
  rw[if_neg (by omega:¬ n + 1=0),É0,show K + 1 - (n + 1)=K - n by omega]
  show b * (evN t b K (lag f) n + lag f n * (t ^ n * b ^ (K - n)))=(b - t) * (evN t b K f n + f n * (t ^ n * b ^ (K - n))) + f n * (t ^ (n + 1) * b ^ (K - n));rw[Int.mul_add,ih];unfold lag;have e1:t ^ (n + 1)=t ^ n * t:=Á1 t n;have e2:b ^ (K + 1 - n)=b ^ (K - n) * b:=by rw[show K + 1 - n=(K - n) + 1 by omega,Á1]
  rw[e1,e2];generalize b ^ (K - n)=B;generalize evN t b K f n=X;cases n with
  |zero=>rw[if_pos rfl,if_pos rfl];grind|succ n=>rw[if_neg ∅,if_neg ∅,É0];grind
def hom(c:Nat->Int)(k:Nat):Int:=o60 (λi=>c i * (t ^ i * (b - t) ^ (k - 1 - i))) k
theorem b31(c:Nat->Int)(k:Nat):hom t b c (k + 1)=(b - t) * hom t b c k + c k * t ^ k:=by
 show o60 (λi=>c i * (t ^ i * (b - t) ^ (k - i))) k + c k * (t ^ k * (b - t) ^ (k - k))=_;rw[sub_self,Ê2,mul_one]
 congr 1
 unfold hom;rw[← b21];refine g50 λi hi=>?_;rw[show k - i=(k - 1 - i) + 1 by omega,Á1]
 generalize (b - t) ^ (k - 1 - i)=B
 grind
theorem S51:evN t b K (λj=>f j + g j) n=evN t b K f n + evN t b K g n:=by
 unfold evN;rw[← K70];exact g50 λi _=>Int.add_mul _ _ _
theorem W00(hb:0 < b):∀ k,k<=K + 1->evN t b K (e90 c k) (K + 1)=b ^ (K + 1 - k) * hom t b c k
 |0,_=>by
  have:∀ n,evN t b K (e90 c 0) n=0:=λn=>by
   induction n with
   |zero=>rfl|succ n ih=>show evN t b K (e90 c 0) n + 0 * _=0;rw[ih,Ï2];rfl
  rw[this];show 0=_ * (0:Int);rw[Ð3]
 |k + 1,h=>by
  have ih:=W00 hb (c:=c) (K:=K) k ∅
  have e1:evN t b K (e90 c (k + 1)) (K + 1)=evN t b K (lag (e90 c k)) (K + 1) + evN t b K (λj=>if j=k then c k else 0) (K + 1):=S51 t b;have e2:evN t b K (λj=>if j=k then c k else 0) (K + 1)=c k * (t ^ k * b ^ (K - k)):=by
   unfold evN;rw[show(λj=>(if j=k then c k else 0) * (t ^ j * b ^ (K - j)))=λj=>if j=k then c k * (t ^ k * b ^ (K - k)) else 0 from funext λj=>by
    by_cases e:j=k
    ·rw[if_pos e,if_pos e,e]
    ·rw[if_neg e,if_neg e,Ï2]]
   exact K80 ∅
  have e3:=H01 t b (K:=K) (f:=e90 c k) (K + 1) (È _);rw[if_neg ∅,É0,h30 c k K ∅,Ï2,add_zero,ih] at e3
  refine Int.eq_of_mul_eq_mul_left (a:=b) ∅ ?_
  rw[e1,Int.mul_add,e3,e2,b31];have e4:b ^ (K + 1 - k)=b ^ (K - k) * b:=by rw[show K + 1 - k=(K - k) + 1 by omega,Á1]
  have e5:K + 1 - (k + 1)=K - k:=by omega
  rw[e4,e5];generalize b ^ (K - k)=B;generalize hom t b c k=H;generalize t ^ k=X
  grind
theorem t50:∀ {j:Nat}{lot:List Nat},lot∈h90 j->amt (λ_=>(t,b)) j lot=t ^ lot.length * (b - t) ^ (j - lot.length)/\lot.length<=j
 |0,lot,h=>by rw[Á2.mp h];exact⟨by show(1:Int)=t ^ 0 * (b - t) ^ 0;rw[Ê2,Ê2];rfl,È _⟩
 |j + 1,lot,h=>by
  rw[i40];rcases Â0.mp h with h | h
  ·obtain⟨h1,h2⟩:=t50 h;have hn:j ∉ lot:=λhh=>absurd (K00 h j hh) (À6 _);rw[h1,if_neg hn,show j + 1 - lot.length=(j - lot.length) + 1 by omega,Á1]
   exact⟨by rw[Int.mul_assoc],by omega⟩
  ·obtain⟨l,hl,rfl⟩:=â.mp h;obtain⟨h1,h2⟩:=t50 hl;rw[S01 (È _),h1,if_pos (ä _ (Á2.mpr rfl)),w32,show j + 1 - (l.length + 1)=j - l.length by omega,Á1]
   exact⟨by show _ * t=_;generalize (b - t) ^ (j - l.length)=B;generalize t ^ l.length=A;grind,by omega⟩
theorem s71(hb:0 < b)(hl:∀ l∈ls,l∈h90 K):evN t b K (e90 (cnt ls) (K + 1)) (K + 1)=C60 ls (amt (λ_=>(t,b)) K):=by
 rw[W00 t b hb (K + 1) (È _),sub_self,Ê2,one_mul];unfold hom;rw[É0,s61 (λi=>t ^ i * (b - t) ^ (K - i)) λl h=>Nat.lt_succ_of_le (t50 t b (hl l h)).2];unfold C60;rw[Ã4 λl h=>((t50 t b (hl l h)).1).symm]
end
def fl(n:Nat)(f:Nat->Int):List D:=(î n).map λj=>.int (f j)
theorem n50(n:Nat)(f:Nat->Int):(fl n f).length=n:=by unfold fl;rw[Ë,ð]
theorem S61(h:i < n):(fl n f)[i]?=some (.int (f i)):=by unfold fl;rw[Û,Ò8 h];rfl
theorem H11(h:i < n):L2.atI (fl n f) (i:Int)=some (.int (f i)):=L2.z40 (S61 h)
theorem s81(h:i < n):d71 (.lst (fl n f)) (b60 i)=some (.int (f i)):=L2.z40 (S61 h)
theorem C11(h:∀ i < n,f i=g i):fl n f=fl n g:=Ã4 λi hi=>by rw[h i (Æ8.mp hi)]
theorem H21(h:i < n):D90 (fl n f) (i:Int) (.int v)=some (fl n λj=>if j=i then v else f j):=by
 have hx:L2.ixN (fl n f).length (i:Int)=some i:=by
  rw[n50];unfold L2.ixN;simp;omega
 unfold D90;rw[hx];show some (((î n).map λj=>D.int (f j)).set i (.int v))=some ((î n).map λj=>D.int (if j=i then v else f j));refine congrArg some (ext_getElem (by rw[Â6,Ë,Ë]) λj h1 h2=>?_)
 rw[List.getElem_set,Í9,Í9,Î5];by_cases e:j=i
 ·rw[if_pos e.symm,if_pos e]
 ·rw[if_neg (À4 e),if_neg e]
theorem t60(n:Nat)(f:Nat->Int):i50 (fl n f)=true:=by
 unfold fl;rw[show((î n).map λj=>D.int (f j))=((î n).map f).map D.int from by rw[ó];rfl]
 exact E90 _
theorem s91:∀ n:Nat,(Õ n [D.int 0]).flatten=fl n λ_=>0
 |0=>rfl
 |n + 1=>by
  rw[Á8,Å8,s91 n];unfold fl;rw[List.range_succ_eq_map,Ç9,ó];rfl
theorem zeros{n:Nat}(h:n<=1000):u50 .mul (.lst [.int 0]) (.int n)=some (.fr (fl n λ_=>0)):=by
 show(if 0<=(n:Int)/\(n:Int).toNat * 1<=most/\(n:Int) < 1000000 then some (S.fr (Õ (n:Int).toNat [D.int 0]).flatten) else none)=_;rw[if_pos ⟨by omega,by rw[À7];exact C10 ∅,by omega⟩,À7,s91]
theorem H31{i:Int}{n:Nat}(e:i=n)(h:n<=1000):u50 .mul (.lst [.int 0]) (.int i)=some (.fr (fl n λ_=>0)):=by rw[e];exact zeros h
theorem S71(n:Nat)(f:Nat->Int):r90 (fl n f) 0=(Á4 0 n).map λi=>.tup [b60 i,.int (f i)]:=by
 have:∀ (r j:Nat),r90 ((Á4 j r).map λi=>D.int (f i)) j=(Á4 j r).map λi=>.tup [b60 i,.int (f i)]:=by
  intro r
  induction r with
  |zero=>intro _;rfl
  |succ r ih =>
   intro j;rw[Ä9];show .tup [.int j,.int (f j)]::r90 ((Á4 (j + 1) r).map λi=>D.int (f i)) (j + 1)=_;rw[ih];rfl
 unfold fl;rw[Ê9];exact this n 0
def l12:D->D
 |.tup [.int a,.int b]=>.int (a - b)|x=>x
theorem b41:∀ a b:List Int,(q00 (a.map D.int) (b.map D.int)).map l12=(List.zipWith (· - ·) a b).map D.int
 |[],_=>rfl|_::_,[]=>rfl
 |x::r,y::q=>by
  show D.int (x - y)::(q00 (r.map D.int) (q.map D.int)).map l12=_;rw[b41 r q];rfl
theorem i82(n:Nat)(f:Nat->Int):(q00 (fl n f) (.int 0::fl n f)).map l12=fl n (lag f):=by
 have e:∀ g:Nat->Int,fl n g=((î n).map g).map D.int:=λg=>by unfold fl;rw[ó];rfl
 rw[e f,show D.int 0::((î n).map f).map D.int=(0::(î n).map f).map D.int from rfl,b41,e (lag f)];refine congrArg _ (ext_getElem ?_ λi h1 h2=>?_)
 ·rw[List.length_zipWith,Ø,Ë,Ë,ð];omega
 ·rw[List.getElem_zipWith,Í9,Í9,Î5];unfold lag;cases i with
  |zero=>rfl|succ i=>rw[List.getElem_cons_succ,Í9,Î5];rfl
theorem W10{a b:List Int}{d:D}(h:d∈q00 (a.map D.int) (b.map D.int)):∃ x y,d=.tup [.int x,.int y]:=by
 obtain⟨x,hx,y,hy,rfl⟩:=J40 h;obtain⟨i,_,rfl⟩:=â.mp hx;obtain⟨j,_,rfl⟩:=â.mp hy;exact⟨i,j,rfl⟩
theorem f31{n:Nat}{f:Nat->Int}{d:D}(h:d∈q00 (fl n f) (.int 0::fl n f)):∃ x y,d=.tup [.int x,.int y]:=by
 have e:fl n f=((î n).map f).map D.int:=by unfold fl;rw[ó];rfl
 rw[e] at h;exact W10 (b:=0::(î n).map f) h
theorem v70:∀ ls:List (List Nat),i50 (ls.map k00)=true
 |[]=>rfl
 |l::r=>by
  show(i50 (l.map b60)&&i50 (r.map k00))=true;rw[v60,v70];rfl
section
variable {m:Int}{ps:List (Int × Int)}{pl:List Nat}
theorem b51(g:c50 m ps)(h:l∈e30 m ps pl):l∈h90 ps.length:=(n30 g.len).mem_iff.mp (Ð2.mp h).1
theorem v80(g:c50 m ps):(e30 m ps pl).length<=256:=Ò (Ð8 _ _) (K30 g.len)
abbrev d40(m:Int)(ps:List (Int × Int))(pl:List Nat):Nat->Int:=cnt (e30 m ps pl)
theorem t70(k:Nat)(g:c50 m ps)(hp:f30 m pl)(z:Z):b40 T (k + 10) s90 [.d (x70 m ps),.d (.tup (pl.map b60))] z=some (.ok (.fr (fl (ps.length + 1) (d40 m ps pl))) z):=by
 have h8:=g.len;refine W.ok (k50 (ps:=2) (ns:=5) (b:=J20) rfl rfl (-0) (Wo (n40 k g hp z) ?_))
 refine(I80 (.fr (fl (ps.length + 1) λ_=>0)) [some (.d (x70 m ps)),some (.d (.tup (pl.map b60))),some (.fr ((e30 m ps pl).map k00)),some (.fr (fl (ps.length + 1) λ_=>0)),none] ?_ ?_ ?_ :)
 ·refine(a00 (H31 (i:=((ps.map pr).length:Int) + 1) (n:=ps.length + 1) (by rw[Ë];rfl) ∅) ?_ :)
  exact⟨rfl,rfl⟩
 ·rw[B70 (show C80 (.fr (fl (ps.length + 1) λ_=>0))=true from t60 _ _)];rfl
 refine I70 (λxs ρ z1=>z1=z/\∃ (r:List (List Nat)) (f:Nat->Int) (o2 o4:Option S),xs=r.map k00/\(∀ l∈r,l.length < ps.length + 1)/\(∀ j,f j + cnt r j=d40 m ps pl j)/\ρ=[some (.d (x70 m ps)),some (.d (.tup (pl.map b60))),o2,some (.fr (fl (ps.length + 1) f)),o4]) _ ⟨rfl,e30 m ps pl,λ_=>0,_,none,rfl,λl hl=>Nat.lt_succ_of_le (y70 (b51 g hl)),λj=>Õ8 _,(itE (l:=[.d (.lst ((e30 m ps pl).map k00))]) (by show(i50 ((e30 m ps pl).map k00)&&true)=true;rw[v70];rfl)).trans rfl⟩ ?_ ?_
 ·rintro x r ρ z1 ⟨rfl,ls,f,o2,o4,e,hl,hf,rfl⟩;cases ls with
  |nil=>cases e
  |cons l ls =>
   cases e;have hl0:=hl l Ð;have el:((l.map b60).length:Int)=(l.length:Nat):=by rw[Ë]
   refine(a00 (o:=L2.atI (fl (ps.length + 1) f) ((l.map b60).length:Int)) (a:=.int (f l.length)) (by rw[el];exact H11 hl0) ?_ :)
   refine(a00 (o:=D90 (fl (ps.length + 1) f) ((l.map b60).length:Int) (.int (f l.length + 1))) (a:=fl (ps.length + 1) λj=>if j=l.length then f l.length + 1 else f j) (by rw[el];exact H21 hl0) ?_ :)
   refine⟨rfl,ls,λj=>if j=l.length then f l.length + 1 else f j,_,_,rfl,λl' h'=>hl l' (Ì _ h'),λj=>?_,rfl⟩;have:=hf j;rw[cnt_cons] at this;show(if j=l.length then f l.length + 1 else f j) + cnt ls j=d40 m ps pl j;by_cases e:j=l.length
   ·rw[if_pos e] at this;rw[if_pos e,← e];omega
   ·rw[if_neg e] at this;rw[if_neg e];omega
 ·rintro ρ z1 ⟨rfl,ls,f,o2,o4,e,hl,hf,rfl⟩;cases ls with
  |cons l ls=>cases e
  |nil =>
   refine sd ?_;rw[show f=d40 m ps pl from funext λj=>by have:=hf j;show f j=_;rw[← this];exact(add_zero _).symm]
abbrev t80(m:Int)(ps:List (Int × Int))(pl:List Nat):Nat->Int:=e90 (d40 m ps pl) (ps.length + 1)
abbrev pwE(m:Int)(ps:List (Int × Int))(pl:List Nat)(o2 o3 o4 o5:Option S):Env:=[some (.d (x70 m ps)),some (.d (.tup (pl.map b60))),o2,o3,o4,o5]
theorem t90(k:Nat)(g:c50 m ps)(hp:f30 m pl)(z:Z):b40 T (k + 11) t00 [.d (x70 m ps),.d (.tup (pl.map b60))] z=some (.ok (.fr (fl (ps.length + 1) (t80 m ps pl))) z):=by
 have h8:=g.len;refine W.ok (k50 (ps:=2) (ns:=6) (b:=J30) rfl rfl (-0) (Wo (t70 k g hp z) ?_))
 refine(I80 (.fr (fl (ps.length + 1) λ_=>0)) (pwE m ps pl (some (.fr (fl (ps.length + 1) (d40 m ps pl)))) (some (.fr (fl (ps.length + 1) λ_=>0))) none none) ?_ ?_ ?_ :)
 ·refine(a00 (H31 (i:=((fl (ps.length + 1) (d40 m ps pl)).length:Int)) (n:=ps.length + 1) (by rw[n50]) ∅) ?_ :)
  exact⟨rfl,rfl⟩
 ·rw[B70 (show C80 (.fr (fl (ps.length + 1) λ_=>0))=true from t60 _ _)];rfl
 refine I70 (λxs ρ z1=>z1=z/\∃ (j r:Nat) (s3:S) (o2 o4 o5:Option S),j + r=ps.length + 1/\xs=(Á4 j r).map (λi=>.tup [b60 i,.int (d40 m ps pl i)])/\((j=0/\s3=.d (.lst (fl (ps.length + 1) (e90 (d40 m ps pl) j))))∨s3=.fr (fl (ps.length + 1) (e90 (d40 m ps pl) j)))/\ρ=pwE m ps pl o2 (some s3) o4 o5) _ ⟨rfl,0,ps.length + 1,.d (.lst (fl (ps.length + 1) λ_=>0)),_,_,_,Nat.zero_add _,S71 _ _,.inl ⟨rfl,rfl⟩,(itE (l:=[.d (.lst (fl (ps.length + 1) (d40 m ps pl)))]) (by show(i50 (fl (ps.length + 1) (d40 m ps pl))&&true)=true;rw[t60];rfl)).trans rfl⟩ ?_ ?_
 ·rintro x r ρ z1 ⟨rfl,j,r',s3,o2,o4,o5,hj,e,hs,rfl⟩;cases r' with
  |zero=>cases e
  |succ r' =>
   rw[Ä9] at e;cases e;refine(I80 (.fr (fl (ps.length + 1) (lag (e90 (d40 m ps pl) j)))) (pwE m ps pl o2 (some (.fr (fl (ps.length + 1) (lag (e90 (d40 m ps pl) j))))) (some (.d (b60 j))) (some (.d (.int (d40 m ps pl j))))) ?_ ?_ ?_ :)
   ·have st:∀ {Q:List D->Z->Prop}{F:FT},Q (fl (ps.length + 1) (lag (e90 (d40 m ps pl) j))) z1->(if (q00 (fl (ps.length + 1) (e90 (d40 m ps pl) j)) (.int 0::fl (ps.length + 1) (e90 (d40 m ps pl) j))).length<=most then W (turns (m10 (ev F .nil) (ev F (.bin .sub v0 v1)) (p2 (.v 0) (.v 1)) [none,none]) (q00 (fl (ps.length + 1) (e90 (d40 m ps pl) j)) (.int 0::fl (ps.length + 1) (e90 (d40 m ps pl) j)))) z1 Q NE else False):=λ{Q F} q=>by
     refine ip (Ò (y60 _ _) (by rw[n50];exact C10 ∅)) (q01 l12 (λx hx=>?_) ?_)
     ·obtain⟨a,b,rfl⟩:=f31 hx;exact⟨rfl,rfl⟩
     ·rw[i82];exact q
    have ad:u50 .add (.lst [.int 0]) (.lst (fl (ps.length + 1) (e90 (d40 m ps pl) j)))=some (.fr (.int 0::fl (ps.length + 1) (e90 (d40 m ps pl) j))):=add_l (by rw[n50];show 1 + _<=1000;omega)
    rcases hs with ⟨_,rfl⟩ | rfl
    ·refine(a00 ad ?_ :);exact st (F:=N70 T (k + 10)) ⟨rfl,rfl⟩
    ·refine(a00 ad ?_ :);exact st (F:=N70 T (k + 10)) ⟨rfl,rfl⟩
   ·rw[B70 (show C80 (.fr (fl (ps.length + 1) (lag (e90 (d40 m ps pl) j))))=true from t60 _ _)];rfl
   ·refine(a00 (H11 (f:=lag (e90 (d40 m ps pl) j)) (i:=j) (n:=ps.length + 1) ∅) ?_ :)
    refine(a00 (H21 (f:=lag (e90 (d40 m ps pl) j)) (i:=j) (n:=ps.length + 1) (v:=lag (e90 (d40 m ps pl) j) j + d40 m ps pl j) ∅) ?_ :)
    refine⟨rfl,j + 1,r',_,_,_,_,by omega,rfl,.inr (congrArg S.fr (C11 λi _=>?_)),rfl⟩
    show(if i=j then lag (e90 (d40 m ps pl) j) j + d40 m ps pl j else lag (e90 (d40 m ps pl) j) i)=lag (e90 (d40 m ps pl) j) i + (if i=j then d40 m ps pl j else 0);by_cases e:i=j
    ·rw[if_pos e,if_pos e,e]
    ·rw[if_neg e,if_neg e,add_zero]
 ·rintro ρ z1 ⟨rfl,j,r',s3,o2,o4,o5,hj,e,hs,rfl⟩;cases r' with
  |succ r'=>rw[Ä9] at e;cases e
  |zero =>
   have hj:j=ps.length + 1:=hj;subst hj;rcases hs with ⟨h,_⟩ | rfl
   ·cases h
   ·exact sd rfl
end
theorem S81(k:Nat)(hc:Bs n c)(hd:Bs n d)(hn:n + n<=3999)(z:Z):b40 T (k + 5) q11 [.d (pr c),.d (pr d)] z=some (.ok (.d (pr (h50 (c.1 * d.1) (c.2 * d.2)))) z):=by
 have h1:n<=3999:=by omega
 refine W.ok (k50 (ps:=2) (ns:=2) (b:=U50) rfl rfl (-0) ?_)
 refine(a00 (V80 h1 hc.t hd.t) ?_ :);refine(a00 (V80 h1 hc.b hd.b) ?_ :);exact Wo (C20 k _ _ z (È3 hc.b0 hd.b0) (s41 hn (r30 hc.b hd.b))) (sd rfl)
theorem Rt.is(h:Rt v t b)(hb:0 < b):v=h50 t b:=h.eqv (.low hb) hb
theorem Rt.bs(h:Rt v t b)(hb:0 < b)(h1:t.natAbs<=2 ^ n)(h2:b.natAbs<=2 ^ n):Bs n v:=by
 rw[h.is hb];exact .low hb h1 h2
def t01(t b:Int)(f:Nat->Int)(K:Nat):Nat->Int
 |0=>0|s + 1=>t * t01 t b f K s + f (K - s) * b ^ (s + 1)
theorem t11(t b:Int)(f:Nat->Int)(K:Nat):∀ s,s<=K + 1->t ^ (K + 1 - s) * t01 t b f K s + b * evN t b K f (K + 1 - s)=b * evN t b K f (K + 1)
 |0,_=>by show t ^ (K + 1) * 0 + _=_;rw[Ð3,Õ8];rfl
 |s + 1,h=>by
  rw[← t11 t b f K s ∅]
  have e1:K + 1 - s=(K - s) + 1:=by omega
  have e2:K + 1 - (s + 1)=K - s:=by omega
  rw[e1,e2];show t ^ (K - s) * (t * t01 t b f K s + f (K - s) * b ^ (s + 1)) + b * evN t b K f (K - s)=t ^ (K - s + 1) * t01 t b f K s + b * (evN t b K f (K - s) + f (K - s) * (t ^ (K - s) * b ^ (K - (K - s))));rw[show K - (K - s)=s by omega,Á1,Á1]
  generalize t ^ (K - s)=X;generalize b ^ s=B;generalize t01 t b f K s=H;generalize evN t b K f (K - s)=V
  grind
theorem C21(t b:Int)(f:Nat->Int)(K:Nat):t01 t b f K (K + 1)=b * evN t b K f (K + 1):=by
 have h:=t11 t b f K (K + 1) (È _);rw[sub_self,Ê2,one_mul] at h;rw[← h];show _=t01 t b f K (K + 1) + b * 0;rw[Ð3,add_zero]
theorem t21{a b:Int}:(a + b).natAbs<=a.natAbs + b.natAbs:=Int.natAbs_add_le a b
theorem j00(hc:IsC c):∀ s:Nat,(c.2 ^ s).natAbs<=2 ^ (10 * s)/\0 < c.2 ^ s
 |0=>⟨by rw[Ê2];decide,by rw[Ê2];decide⟩
 |s + 1=>by
  obtain⟨h1,h2⟩:=j00 hc s;rw[Á1];have:=hc.s.b;exact⟨r30 h1 this,È3 h2 hc.s.b0⟩
theorem t31(hc:IsC c)(hf:∀ j,(f j).natAbs<=2 ^ 17){K:Nat}:∀ s,(t01 c.1 c.2 f K s).natAbs<=2 ^ (17 + 11 * s)
 |0=>Ä3 _
 |s + 1=>by
  have ih:=t31 hc hf (K:=K) s;have h1:=r30 hc.s.t ih;have h2:=r30 (hf (K - s)) (j00 hc (s + 1)).1;refine Ò t21 ?_;have e1:2 ^ (10 + (17 + 11 * s))<=2 ^ (16 + 11 * (s + 1)):=À0 (-0) ∅
  have e2:2 ^ (17 + 10 * (s + 1))<=2 ^ (16 + 11 * (s + 1)):=À0 (-0) ∅
  have e3:2 ^ (17 + 11 * (s + 1))=2 * 2 ^ (16 + 11 * (s + 1)):=by rw[show 17 + 11 * (s + 1)=(16 + 11 * (s + 1)) + 1 by omega,Õ6,Ð0]
  rw[e3];omega
section
variable {m:Int}{ps:List (Int × Int)}{pl:List Nat}{c:Int × Int}
theorem H41(g:c50 m ps)(j:Nat):(t80 m ps pl j).natAbs<=2 ^ 17:=by
 have h8:=g.len;refine Ò (V90 (λi=>?_) _ _) ?_
 ·have:=G91 (e30 m ps pl) i;have:=v80 g (pl:=pl);exact⟨(G91 (e30 m ps pl) i).1,by show cnt (e30 m ps pl) i<=256;omega⟩
 ·have:2 ^ (ps.length + 1)<=2 ^ 9:=À0 (-0) ∅
  have e9:2 ^ 9=512:=by decide
  have e17:2 ^ 17=131072:=by decide
  omega
def F20(m:Int)(ps:List (Int × Int))(pl:List Nat)(c:Int × Int):Int × Int:=h50 (evN c.1 c.2 ps.length (t80 m ps pl) (ps.length + 1)) (c.2 ^ ps.length)
theorem K90(g:c50 m ps)(hc:IsC c):evN c.1 c.2 ps.length (t80 m ps pl) (ps.length + 1)=C60 (e30 m ps pl) (amt (λ_=>c) ps.length):=s71 c.1 c.2 hc.s.b0 λ_ h=>b51 g h
theorem t41(f:Nat->Int):∀ n,(fl (n + 1) f).reverse=.int (f n)::(fl n f).reverse:=λn=>by
 unfold fl;rw[range_succ,Ê4,List.reverse_append];rfl
theorem d70(k:Nat)(g:c50 m ps)(hp:f30 m pl)(hc:IsC c)(z:Z):b40 T (k + 12) e20 [.d (x70 m ps),.d (.tup (pl.map b60)),.d (pr c)] z=some (.ok (.d (pr (F20 m ps pl c))) z):=by
 have h8:=g.len;have h6:=hp.len g.m6;refine W.ok (k50 (ps:=3) (ns:=5) (b:=v40) rfl rfl (-0) (Wo (f60 (k + 3) z g.web) (Wo (d00 (k + 5) (t:=.tup (ps.map pr)) z hp.pls (decide_eq_true (by rw[Ë];omega))) (Wo (C50 (k + 6) z hc.ch) (Wo (t90 k g hp z) ?_)))))
 refine I70 (λxs ρ z1=>z1=z/\∃ (s:Nat) (v:Int × Int) (o4:Option S),s<=ps.length + 1/\xs=(fl (ps.length + 1 - s) (t80 m ps pl)).reverse/\Rt v (t01 c.1 c.2 (t80 m ps pl) ps.length s) (c.2 ^ s)/\ρ=[some (.d (x70 m ps)),some (.d (.tup (pl.map b60))),some (.d (pr c)),some (.d (pr v)),o4]) _ ⟨rfl,0,(0,1),none,Ä3 _,rfl,⟨by decide,by decide,by show(0:Int) * _=0 * _;rw[Ï2,Ï2]⟩,rfl⟩ ?_ ?_
 ·rintro x r ρ z1 ⟨rfl,s,v,o4,hs,e,hv,rfl⟩;by_cases h:s=ps.length + 1
  ·subst h;rw[sub_self] at e;cases e
  ·rw[show ps.length + 1 - s=(ps.length - s) + 1 by omega,t41] at e
   cases e;have hb:=j00 hc s;have hbs:Bs 116 v:=hv.bs hb.2 (Ò (t31 hc (H41 g) s) (À0 (-0) ∅)) (Ò hb.1 (À0 (-0) ∅))
   have hcs:Bs 116 c:=hc.s.up (-0)
   have hi:Bs 232 (t80 m ps pl (ps.length - s),(1:Int)):=⟨Ò (H41 g _) (À0 (-0) (-0)),by show(0:Int) < 1;decide,by show(1:Int).natAbs<=2 ^ 232;decide⟩
   refine Wo (S81 (k + 6) hbs hcs (-0) z1) (Wo (i72 (k + 6) (hbs.mul hcs) hi (-0) z1) ?_)
   refine⟨rfl,s + 1,_,_,by omega,by rw[show ps.length + 1 - (s + 1)=ps.length - s by omega],?_,rfl⟩
   have hr:Rt (t80 m ps pl (ps.length - s),(1:Int)) (t80 m ps pl (ps.length - s)) 1:=⟨by show(0:Int) < 1;decide,Int.gcd_one_right _,rfl⟩
   refine((hv.mul hc.rt).add hr).conv ?_ ?_
   ·exact È3 (È3 hb.2 hc.s.b0) (-0)
   ·show _ * c.2 ^ (s + 1)=(c.1 * t01 c.1 c.2 (t80 m ps pl) ps.length s + t80 m ps pl (ps.length - s) * c.2 ^ (s + 1)) * _;rw[Á1];generalize c.2 ^ s=B;generalize t01 c.1 c.2 (t80 m ps pl) ps.length s=H
    grind
 ·rintro ρ z1 ⟨rfl,s,v,o4,hs,e,hv,rfl⟩;have hs':s=ps.length + 1:=by
   have:=congrArg Ø3 e;rw[Ì9,n50] at this;simp only[Á9] at this;omega
  subst hs';refine sd ?_;rw[C21] at hv;have hb:=j00 hc ps.length;have:Rt v (evN c.1 c.2 ps.length (t80 m ps pl) (ps.length + 1)) (c.2 ^ ps.length):=hv.conv (j00 hc (ps.length + 1)).2 (by rw[Á1];generalize c.2 ^ ps.length=B;generalize evN c.1 c.2 ps.length (t80 m ps pl) (ps.length + 1)=V;grind)
  rw[this.is hb.2];rfl
end
section
variable {m m':Int}{ps ps':List (Int × Int)}{pl pl':List Nat}
theorem u00(k:Nat)(g:c50 m ps)(hp:f30 m pl)(g':c50 m' ps')(hp':f30 m' pl')(z:Z):b40 T (k + 9) m70 [.d (x70 m ps),.d (.tup (pl.map b60)),.d (x70 m' ps'),.d (.tup (pl'.map b60))] z=some (.ok (.d .non) z):=by
 have h6:=hp.len g.m6;have h6':=hp'.len g'.m6;exact W.ok (k50 (ps:=4) (ns:=4) (b:=n00) rfl rfl (-0) (Wo (f60 k z g.web) (Wo (f60 k z g'.web) (Wo (d00 (k + 2) (t:=.tup (ps.map pr)) z hp.pls (decide_eq_true (by rw[Ë];omega))) (Wo (d00 (k + 2) (t:=.tup (ps'.map pr)) z hp'.pls (decide_eq_true (by rw[Ë];omega))) (sd rfl))))))
end
theorem W20(n:Nat)(f:Nat->Int):fl n f=((î n).map f).map D.int:=by unfold fl;rw[ó];rfl
theorem t51(n:Nat)(f:Nat->Int):okD (.lst (fl n f))=true:=by rw[W20];exact r11 _
theorem i92(n n':Nat)(f f':Nat->Int):C70 .eq (.lst (fl n f)) (.lst (fl n' f'))=some (H40 (fl n f) (fl n' f')):=by
 show eqQ _ _=_;unfold eqQ;rw[t51,t51];rfl
theorem H51(hB:0 < B)(hE:0 < E):(h50 C E).1 * (h50 A B).2 < (h50 A B).1 * (h50 C E).2↔C * B < A * E:=by
 have h1:=Rt.low (t:=A) hB;have h2:=Rt.low (t:=C) hE;generalize h50 A B=v at h1 ⊢;generalize h50 C E=w at h2 ⊢;have e1:=h1.eq;have e2:=h2.eq;have p1:0 < B * E:=È3 hB hE;have p2:0 < v.2 * w.2:=È3 h1.b0 h2.b0;have k1:(w.1 * v.2) * (B * E)=(C * B) * (v.2 * w.2):=by
  calc (w.1 * v.2) * (B * E)=(w.1 * E) * (v.2 * B):=by grind
   _=(C * B) * (v.2 * w.2):=by rw[e2];grind
 have k2:(v.1 * w.2) * (B * E)=(A * E) * (v.2 * w.2):=by
  calc (v.1 * w.2) * (B * E)=(v.1 * B) * (w.2 * E):=by grind
   _=(A * E) * (v.2 * w.2):=by rw[e1];grind
 constructor
 ·intro h;refine Û2 (a:=v.2 * w.2) ?_ (Ë8 p2);rw[← k1,← k2];exact Ú4 h p1
 ·intro h;refine Û2 (a:=B * E) ?_ (Ë8 p1);rw[k1,k2];exact Ú4 h p2
def b61(l:Int):Int:=(if decide (0 < l)=true then 1 else 0) - (if decide (l < 0)=true then 1 else 0)
theorem t61(hc:IsC c):∀ j:Nat,0<=amt (λ_=>c) j lot/\amt (λ_=>c) j lot<=2 ^ (10 * j)
 |0=>by show(0:Int)<=1/\(1:Int)<=1;omega
 |j + 1=>by
  obtain⟨h1,h2⟩:=t61 hc (lot:=lot) j;obtain⟨w1,w2⟩:=hc.w (j∈lot);rw[i40];refine⟨Int.mul_nonneg h1 w1,?_⟩;rw[Nat.mul_add,pow_add];exact Û1 h2 ∅ w1 (by have:=Ð4 h1 h2;exact this)
theorem C31(hc:IsC c)(hj:j<=8):(amt (λ_=>c) j lot).natAbs<=2 ^ 90:=by
 obtain⟨h1,h2⟩:=t61 hc (lot:=lot) j;have h3:(2:Int) ^ (10 * j)<=2 ^ 90:=by
  have:2 ^ (10 * j)<=2 ^ 90:=À0 (-0) ∅
  exact_mod_cast this
 have:amt (λ_=>c) j lot<=2 ^ 90:=Ð4 h2 h3;omega
section
variable {m m':Int}{ps ps':List (Int × Int)}{pl pl':List Nat}{c:Int × Int}
abbrev u10(m:Int)(ps:List (Int × Int))(pl:List Nat)(c:Int × Int):Int:=C60 (e30 m ps pl) (amt (λ_=>c) ps.length)
theorem v90(g:c50 m ps)(hc:IsC c):F20 m ps pl c=h50 (u10 m ps pl c) (c.2 ^ ps.length):=by unfold F20;rw[K90 g hc]
theorem j02(g:c50 m ps)(hc:IsC c):(u10 m ps pl c).natAbs<=2 ^ 98:=by
 have:∀ ls:List (List Nat),(C60 ls (amt (λ_=>c) ps.length)).natAbs<=ls.length * 2 ^ 90:=λls=>by
  induction ls with
  |nil=>exact Ä3 _
  |cons l r ih =>
   show(amt (λ_=>c) ps.length l + C60 r _).natAbs<=_;refine Ò t21 ?_;rw[Ø,Nat.add_mul,Nat.one_mul,Nat.add_comm];exact Û0 ih (C31 hc g.len)
 refine Ò (this _) ?_;rw[show 2 ^ 98=256 * 2 ^ 90 by decide]
 exact Nat.mul_le_mul_right _ (v80 g)
theorem H61(g:c50 m ps)(hc:IsC c):Bs 100 (F20 m ps pl c):=by
 have h8:=g.len;rw[v90 g hc];have hb:=j00 hc ps.length;exact .low hb.2 (Ò (j02 g hc) (-0)) (Ò hb.1 (À0 (-0) ∅))
theorem f41(k:Nat)(g:c50 m ps)(hp:f30 m pl)(g':c50 m' ps')(hp':f30 m' pl')(hc:IsC c)(z:Z):b40 T (k + 13) w40 [.d (x70 m ps),.d (.tup (pl.map b60)),.d (x70 m' ps'),.d (.tup (pl'.map b60)),.d (pr c)] z=some (.ok (.d (.int (b61 (u10 m ps pl c * c.2 ^ ps'.length - u10 m' ps' pl' c * c.2 ^ ps.length)))) z):=by
 have hb:=(j00 hc ps.length).2;have hb':=(j00 hc ps'.length).2;have b1:=H61 g hc (pl:=pl);have b2:=H61 g' hc (pl:=pl');have l1:=H51 (A:=u10 m ps pl c) (C:=u10 m' ps' pl' c) hb hb';have l2:=H51 (A:=u10 m' ps' pl' c) (C:=u10 m ps pl c) hb' hb;rw[← v90 g hc,← v90 g' hc] at l1 l2;refine W.ok (k50 (ps:=5) (ns:=7) (b:=n10) rfl rfl (-0) (Wo (u00 (k + 3) g hp g' hp' z) (Wo (d70 k g hp hc z) (Wo (d70 k g' hp' hc z) (Wo (F10 (k + 9) b2 b1 (-0) z) ?_)))))
 generalize u10 m ps pl c=A at l1 l2 ⊢;generalize u10 m' ps' pl' c=C at l1 l2 ⊢;generalize c.2 ^ ps.length=B at l1 l2 ⊢;generalize c.2 ^ ps'.length=E at l1 l2 ⊢;refine ib (b:=decide _) (λh=>?_) λh=>?_
 ·have h:=l1.mp (of_decide_eq_true h);refine sd ?_;unfold b61;rw[decide_eq_true (by omega:0 < A * E - C * B),decide_eq_false (by omega:¬ A * E - C * B < 0)];rfl
 ·have h:¬ C * B < A * E:=λq=>of_decide_eq_false h (l1.mpr q);refine Wo (F10 (k + 9) b1 b2 (-0) z) ?_
  refine ib (b:=decide _) (λh'=>?_) λh'=>?_
  ·have h':=l2.mp (of_decide_eq_true h');refine sd ?_;unfold b61;rw[decide_eq_false (by omega:¬ 0 < A * E - C * B),decide_eq_true (by omega:A * E - C * B < 0)];rfl
  ·have h':¬ A * E < C * B:=λq=>of_decide_eq_false h' (l2.mpr q);refine sd ?_;unfold b61;rw[decide_eq_false (by omega:¬ 0 < A * E - C * B),decide_eq_false (by omega:¬ A * E - C * B < 0)];rfl
theorem w90(k:Nat)(g:c50 m ps)(hp:f30 m pl)(g':c50 m' ps')(hp':f30 m' pl')(z:Z):b40 T (k + 11) q50 [.d (x70 m ps),.d (.tup (pl.map b60)),.d (x70 m' ps'),.d (.tup (pl'.map b60))] z=some (.ok (.d (.bl (H40 (fl (ps.length + 1) (d40 m ps pl)) (fl (ps'.length + 1) (d40 m' ps' pl'))))) z):=by
 refine W.ok (k50 (ps:=4) (ns:=4) (b:=q90) rfl rfl (-0) (Wo (u00 (k + 1) g hp g' hp' z) (Wo (t70 k g hp z) (Wo (t70 k g' hp' z) ?_))))
 refine(a00 (i92 _ _ _ _) ?_ :);exact sd rfl
end
theorem w00(c:Nat->Int):∀ k:Nat,e90 c (k + 1) 0=c 0
 |0=>by show lag (e90 c 0) 0 + (if 0=0 then c 0 else 0)=c 0;rw[if_pos rfl];show(0:Int) - 0 + c 0=c 0;omega
 |k + 1=>by
  show lag (e90 c (k + 1)) 0 + (if 0=k + 1 then c (k + 1) else 0)=c 0;rw[if_neg ∅]
  unfold lag;rw[if_pos rfl,w00 c k];omega
theorem w10{c c':Nat->Int}:∀ k:Nat,(∀ i < k,c i=c' i)->∀ j,e90 c k j=e90 c' k j
 |0,_,_=>rfl
 |k + 1,h,j=>by
  show lag (e90 c k) j + (if j=k then c k else 0)=lag (e90 c' k) j + (if j=k then c' k else 0);have e:e90 c k=e90 c' k:=funext (w10 k λi hi=>h i ∅)
  rw[e,h k ∅]
theorem b71{c c':Nat->Int}:∀ k:Nat,(∀ j,e90 c k j=e90 c' k j)->∀ i < k,c i=c' i
 |0,_,i,hi=>by omega
 |k + 1,h,i,hi=>by
  have h:∀ j,lag (e90 c k) j + (if j=k then c k else 0)=lag (e90 c' k) j + (if j=k then c' k else 0):=h;have lo:∀ j,j < k->e90 c k j=e90 c' k j:=λj=>by
   induction j with
   |zero =>
    intro hj;have:=h 0;unfold lag at this;rw[if_neg (by omega:¬ 0=k),if_neg (by omega:¬ 0=k),if_pos rfl,if_pos rfl] at this
    omega
   |succ j ih =>
    intro hj;have:=h (j + 1);unfold lag at this;rw[if_neg (by omega:¬ j + 1=k),if_neg (by omega:¬ j + 1=k),if_neg (by omega:¬ j + 1=0),if_neg (by omega:¬ j + 1=0),É0,ih ∅] at this
    omega
  have all:∀ j,e90 c k j=e90 c' k j:=λj=>by
   by_cases hj:j < k
   ·exact lo j hj
   ·rw[h30 c k j ∅,h30 c' k j ∅]
  by_cases e:i=k
  ·subst e;have e:=h i;rw[show e90 c i=e90 c' i from funext all,if_pos rfl,if_pos rfl] at e;omega
  ·exact b71 k all i ∅
theorem H71(K:Nat)(f:Nat->Int)(n:Nat):evN 1 1 K f n=o60 f n:=g50 λi _=>by rw[Ò9,Ò9,mul_one,mul_one]
theorem t71(K:Nat)(f:Nat->Int):∀ n,evN 0 1 K f (n + 1)=f 0
 |0=>by show(0:Int) + f 0 * (0 ^ 0 * 1 ^ (K - 0))=f 0;rw[Ò9,Ê2];omega
 |n + 1=>by
  show evN 0 1 K f (n + 1) + f (n + 1) * (0 ^ (n + 1) * 1 ^ (K - (n + 1)))=f 0;rw[t71 K f n,Á1];simp
theorem b81(c:Nat->Int)(k:Nat):o60 (e90 c (k + 1)) (k + 1)=c k:=by
 have h:=W00 1 1 (-0) (c:=c) (K:=k) (k + 1) (È _)
 rw[H71,b31,sub_self,Ò9,Ò9] at h;rw[h];omega
theorem b91(t:Int):h50 t 1=(t,1):=by
 unfold h50;rw[Int.gcd_one];simp
theorem j12(f:Nat->Int):∀ n,Q70 (fl n f)=some (o60 f n):=by
 have app:∀ (l:List D) (v i:Int),Q70 l=some i->Q70 (l++[.int v])=some (i + v):=λl=>by
  induction l with
  |nil=>intro v i h;cases h;show some (v + 0)=_;rw[add_zero,Õ8]
  |cons x r ih =>
   intro v i h;cases x with
   |int a =>
    obtain⟨b,h1,rfl⟩:=É.mp (show(Q70 r).map (a + ·)=some i from h);show(Q70 (r++[.int v])).map (a + ·)=_;rw[ih v b h1];show some (a + (b + v))=some (a + b + v);rw[Int.add_assoc]
   |_=>cases h
 intro n
 induction n with
 |zero=>rfl
 |succ n ih =>
  have:fl (n + 1) f=fl n f++[.int (f n)]:=by unfold fl;rw[range_succ,Ê4];rfl
  rw[this];exact app _ _ _ ih
theorem n60{n n':Nat}{f f':Nat->Int}:H40 (fl n f) (fl n' f')=true↔n=n'/\∀ i < n,f i=f' i:=by
 have key:∀ (a b:List Int),H40 (a.map D.int) (b.map D.int)=true↔a=b:=λa=>by
  induction a with
  |nil=>intro b;cases b with
   |nil=>exact⟨λ_=>rfl,λ_=>rfl⟩|cons y q=>exact⟨λh=>(by cases h),λh=>(by cases h)⟩
  |cons x r ih =>
   intro b;cases b with
   |nil=>exact⟨λh=>(by cases h),λh=>(by cases h)⟩
   |cons y q =>
    show(x == y&&H40 (r.map D.int) (q.map D.int))=true↔_;rw[Á,beq_iff_eq,ih q,List.cons.injEq]
 rw[W20,W20,key];constructor
 ·intro h;have hn:n=n':=by have:=congrArg Ø3 h;simpa using this
  subst hn;refine⟨rfl,λi hi=>?_⟩;have:=congrArg (λl:List Int=>l[i]?) h;simpa [hi] using this
 ·rintro ⟨rfl,h⟩;exact Ã4 λi hi=>h i (Æ8.mp hi)
section
variable {m m':Int}{ps ps':List (Int × Int)}{pl pl':List Nat}{c:Int × Int}
theorem S91:H40 (fl (ps.length + 1) (d40 m ps pl)) (fl (ps'.length + 1) (d40 m' ps' pl'))=(decide (ps.length=ps'.length)&&H40 (fl (ps.length + 1) (t80 m ps pl)) (fl (ps'.length + 1) (t80 m' ps' pl'))):=by
 rw[Ä0,Á,n60,n60,decide_eq_true_eq];constructor
 ·rintro ⟨h1,h2⟩;have h1:ps.length=ps'.length:=by omega
  refine⟨h1,by omega,λi _=>?_⟩
  unfold t80;rw[← h1];exact w10 _ h2 i
 ·rintro ⟨h1,_,h2⟩;refine⟨by omega,b71 (ps.length + 1) λj=>?_⟩
  by_cases hj:j < ps.length + 1
  ·have:=h2 j hj;unfold t80 at this;rw[← h1] at this;exact this
  ·rw[h30 _ _ j ∅,h30 _ _ j ∅]
theorem t81(g:c50 m ps)(g':c50 m' ps')(hc:IsC c)(h:H40 (fl (ps.length + 1) (d40 m ps pl)) (fl (ps'.length + 1) (d40 m' ps' pl'))=true):u10 m ps pl c * c.2 ^ ps'.length - u10 m' ps' pl' c * c.2 ^ ps.length=0:=by
 obtain⟨h1,h2⟩:=n60.mp h;have h1:ps.length=ps'.length:=by omega
 have e:u10 m ps pl c=u10 m' ps' pl' c:=by
  show C60 _ _=C60 _ _;rw[← K90 g hc,← K90 g' hc];unfold t80;rw[← h1,show e90 (d40 m ps pl) (ps.length + 1)=e90 (d40 m' ps' pl') (ps.length + 1) from funext (w10 _ h2)]
 rw[e,h1];omega
theorem C41{x:Int}:b61 x=0↔x=0:=by
 unfold b61;by_cases h1:0 < x
 ·rw[decide_eq_true h1,decide_eq_false (by omega:¬ x < 0)];simp;omega
 ·by_cases h2:x < 0
  ·rw[decide_eq_false h1,decide_eq_true h2];simp;omega
  ·rw[decide_eq_false h1,decide_eq_false h2];simp;omega
theorem C51(g:c50 m ps)(g':c50 m' ps')(hc:IsC c):F20 m ps pl c=F20 m' ps' pl' c↔u10 m ps pl c * c.2 ^ ps'.length - u10 m' ps' pl' c * c.2 ^ ps.length=0:=by
 have hb:=(j00 hc ps.length).2;have hb':=(j00 hc ps'.length).2;rw[v90 g hc,v90 g' hc];generalize u10 m ps pl c=A;generalize u10 m' ps' pl' c=C;generalize c.2 ^ ps.length=B at *
 generalize c.2 ^ ps'.length=E at *
 have h1:=Rt.low (t:=A) hb;have h2:=Rt.low (t:=C) hb';constructor
 ·intro e;rw[← e] at h2;have e1:=h1.eq;have e2:=h2.eq;have p:=h1.b0;generalize h50 A B=v at *
  have:(A * E) * v.2=(C * B) * v.2:=by
   calc (A * E) * v.2=(A * v.2) * E:=by grind
    _=(v.1 * E) * B:=by rw[← e1];grind
    _=(C * B) * v.2:=by rw[e2];grind
  have:=Æ9 ∅ this
  omega
 ·intro e;exact(h1.conv hb (t':=C) (b':=E) ∅).eqv h2 hb'
theorem t91(g:c50 m ps)(hc:IsC c):b11 m ps (Õ ps.length c) pl=F20 m ps pl c:=by
 have hcf:∀ n < ps.length,cf (Õ ps.length c) n=c:=λn hn=>by rw[cf,Ü,È4,if_pos hn];rfl
 have ha:∀ (lot:List Nat) (j:Nat),j<=ps.length->amt (cf (Õ ps.length c)) j lot=amt (λ_=>c) j lot:=λlot j=>by
  induction j with
  |zero=>intro _;rfl|succ j ih=>intro hj;rw[i40,i40,ih ∅,hcf j ∅]
 have hp:∀ n,o80 (Õ n c)=c.2 ^ n:=λn=>by
  induction n with
  |zero=>show(1:Int)=_;rw[Ê2]|succ n ih=>show c.2 * o80 (Õ n c)=_;rw[ih,Á1,Ë7]
 rw[v90 g hc];unfold b11 u10;rw[hp,← C40];have e:(λlot=>amt (cf (Õ ps.length c)) ps.length lot)=amt (λ_=>c) ps.length:=funext λlot=>ha lot _ (È _);have e2:C60 ((h90 ps.length).filter (V40 ps m.toNat pl)) (λlot=>amt (cf (Õ ps.length c)) ps.length lot)=C60 (e30 m ps pl) (amt (λ_=>c) ps.length):=by
  rw[e];exact(Q40 ((n30 g.len).filter _)).symm
 exact congrArg (λx=>h50 x (c.2 ^ ps.length)) e2
theorem j22:F20 m ps pl (1,1)=(d40 m ps pl ps.length,1):=by
 unfold F20;rw[H71,Ò9,b81,b91]
theorem j32:F20 m ps pl (0,1)=(d40 m ps pl 0,1):=by
 unfold F20;rw[t71,Ò9];show h50 (e90 (d40 m ps pl) (ps.length + 1) 0) 1=_;rw[w00,b91]
theorem H81(c:Int × Int):∀ n:Nat,(Õ n [pr c]).flatten=(Õ n c).map pr
 |0=>rfl|n + 1=>by rw[Á8,Á8,Å8,H81 c n];rfl
theorem T01(c:Int × Int){n:Nat}(h:n<=8):u50 .mul (.tup [pr c]) (.int n)=some (.d (.tup ((Õ n c).map pr))):=by
 show(if 0<=(n:Int)/\(n:Int).toNat * 1<=most/\(n:Int) < 1000000 then some (S.d (.tup (Õ (n:Int).toNat [pr c]).flatten)) else none)=_;rw[if_pos ⟨by omega,by simp only[most];omega,by omega⟩,À7,H81]
theorem c01(n:Nat)(f:Nat->Int):d71 (.lst (fl (n + 1) f)) (.int (-1))=some (.int (f n)):=by
 show L2.atI (fl (n + 1) f) (-1)=_;have e:L2.ixN (fl (n + 1) f).length (-1)=some n:=by
  rw[n50];unfold L2.ixN;rw[if_neg ∅,if_pos ∅]
  congr 1
  omega
 unfold L2.atI;rw[e];exact S61 ∅
theorem w82(n:Nat)(f:Nat->Int):C70 .ne (.lst (fl n f)) (.lst (fl n f))=some false:=by
 show(eqO (.lst (fl n f)) (.lst (fl n f))).map (!·)=_;unfold eqO;rw[t51];show some (!H40 (fl n f) (fl n f))=_;rw[n60.mpr ⟨rfl,λ_ _=>rfl⟩];rfl
theorem T11:bfD .sum [.lst (fl (ps.length + 1) (t80 m ps pl))]=some (.d (.int (d40 m ps pl ps.length))):=by
 show((S30 (.lst (fl (ps.length + 1) (t80 m ps pl)))).bind Q70).map (λi=>S.d (.int i))=_;show(Q70 (fl (ps.length + 1) (t80 m ps pl))).map (λi=>S.d (.int i))=_;rw[j12,b81];rfl
def j42(j:Nat):D->Bool
 |.tup t=>(t.length:Int) == (j:Int)|_=>false
def A02:D->Nat
 |.int i=>i.toNat|_=>0
theorem C61(ls:List (List Nat))(j:Nat):(((ls.map k00).filter (j42 j)).map λx=>x).length=(ls.filter λl=>l.length == j).length:=by
 rw[List.map_id',List.filter_map,Ë]
 congr 2
 funext l
 show(((l.map b60).length:Int) == (j:Int))=_;rw[Ë,Ä0,beq_iff_eq,beq_iff_eq];omega
abbrev rgE(m:Int)(ps:List (Int × Int))(pl:List Nat)(c:Int × Int)(o6:Option S):Env:=[some (.d (x70 m ps)),some (.d (.tup (pl.map b60))),some (.d (pr c)),some (.d (pr (F20 m ps pl c))),some (.d (.lst (fl (ps.length + 1) (t80 m ps pl)))),some (.d (.lst (fl (ps.length + 1) (d40 m ps pl)))),o6]
abbrev bRi:Nat->Sm:=rec i20 λ_ r=>tl r
theorem T21(k:Nat)(g:c50 m ps)(hp:f30 m pl){z:Z}{o6:Option S}{Q:O->Z->Prop}{E:Nat->Z->Prop}{tp:Bool}(q:Q (.rt (.d (.bl true))) z):WS (N70 T (k + 11 + 2)) tp (bRi 4) (rgE m ps pl c o6) z Q E:=by
 have c1:=d70 (k + 1) g hp I02 z;rw[j22] at c1;have c2:=d70 (k + 1) g hp I12 z;rw[j32] at c2;have c3:=w90 (k + 2) g hp g hp z;rw[n60.mpr ⟨rfl,λ_ _=>rfl⟩] at c3;refine(a00 T11 ?_ :);refine(a00 (c01 _ _) ?_ :);refine ie (b:=!(d40 m ps pl ps.length == d40 m ps pl ps.length)) (by rw[beq_self_eq_true];rfl) ?_
 refine(a00 (s81 (n:=ps.length + 1) (i:=0) ∅) ?_ :)
 refine(a00 (s81 (n:=ps.length + 1) (i:=0) ∅) ?_ :)
 refine ie (b:=!(t80 m ps pl 0 == d40 m ps pl 0)) (by rw[show t80 m ps pl 0=d40 m ps pl 0 from w00 _ _,beq_self_eq_true];rfl) ?_
 refine ie (b:=!(((fl (ps.length + 1) (t80 m ps pl)).length:Int) == ((fl (ps.length + 1) (d40 m ps pl)).length:Int))) (by rw[n50,n50,beq_self_eq_true];rfl) ?_
 refine Wo c1 ?_;refine(a00 (c01 _ _) ?_ :);refine ie (w72 (d40 m ps pl ps.length,1)) ?_;refine Wo c2 ?_;refine(a00 (s81 (n:=ps.length + 1) (i:=0) ∅) ?_ :)
 refine ie (w72 (d40 m ps pl 0,1)) ?_;refine Wo c3 ?_;exact q
theorem T31(n:Nat)(f:Nat->Int):((Á4 0 n).map b60).map (λx=>D.int (f (A02 x)))=fl n f:=by
 rw[ó,← Ê9];unfold fl;refine Ã4 λi _=>?_;show D.int (f ((i:Int).toNat))=_;rw[À7]
theorem T41(k:Nat)(g:c50 m ps)(hp:f30 m pl){z:Z}{Q:O->Z->Prop}{E:Nat->Z->Prop}{tp:Bool}(q:Q (.rt (.d (.bl true))) z):WS (N70 T (k + 11 + 2)) tp (bRi 3) (rgE m ps pl c (some (.fr ((e30 m ps pl).map k00)))) z Q E:=by
 have h8:=g.len;have hg:=v80 g (pl:=pl);refine(a00 (s11 (n:=(fl (ps.length + 1) (d40 m ps pl)).length) (by rw[n50];omega)) ?_ :)
 refine ip (by rw[Ë,List.length_range',n50];simp only[most];omega) (q01 (λx=>D.int (d40 m ps pl (A02 x))) (λx hx=>?_) ?_)
 ·obtain⟨j,_,rfl⟩:=â.mp hx;refine ip (by rw[Ë];simp only[most];omega) (z52 (j42 j) (λx=>x) (λy hy=>?_) ?_)
  ·obtain⟨l,_,rfl⟩:=â.mp hy;exact⟨rfl,rfl,λ_=>⟨rfl,rfl⟩⟩
  ·refine⟨?_,rfl⟩;rw[C61];show D.int _=D.int (d40 m ps pl ((j:Int).toNat));rw[À7];rfl
 ·rw[n50,T31];refine(a00 (w82 _ _) ?_ :);exact T21 k g hp q
theorem C71(k:Nat)(g:c50 m ps)(hp:f30 m pl)(hc:IsC c)(z:Z):b40 T (k + 14) w60 [.d (x70 m ps),.d (.tup (pl.map b60)),.d (pr c)] z=some (.ok (.d (.bl true)) z):=by
 have h8:=g.len;have c1:=C01 (k + 2) g hp (cs:=Õ ps.length c) Ð7 (λd hd=>by rw[Û5 hd];exact hc) z
 rw[t91 g hc] at c1;refine W.ok (k50 (ps:=3) (ns:=7) (b:=i20) rfl rfl (-0) ?_)
 refine(I80 (.d (.tup [pr (F20 m ps pl c),.lst (fl (ps.length + 1) (t80 m ps pl)),.lst (fl (ps.length + 1) (d40 m ps pl))])) (rgE m ps pl c none) ?_ ?_ ?_ :)
 ·exact Wo (d70 (k + 1) g hp hc z) (Wo (t90 (k + 2) g hp z) (Wo (t70 (k + 3) g hp z) ⟨rfl,rfl⟩))
 ·rfl
 refine(a00 (o:=u50 .mul (.tup [pr c]) (.int ((ps.map pr).length:Nat))) (by rw[Ë];exact T01 c h8) ?_ :)
 refine Wo c1 (ie (w72 (F20 m ps pl c)) ?_);refine(I80 (.fr ((e30 m ps pl).map k00)) (rgE m ps pl c (some (.fr ((e30 m ps pl).map k00)))) ?_ ?_ ?_ :)
 ·exact Wo (n40 (k + 4) g hp z) ⟨rfl,rfl⟩
 ·rw[B70 (show C80 (.fr ((e30 m ps pl).map k00))=true from v70 _)];rfl
 exact T41 k g hp (sd rfl)
abbrev laE(ns:List Int)(j:Nat)(m m':Int)(ps ps':List (Int × Int))(pl pl':List Nat)(c:Int × Int)(o8 o9 o10:Option S):Env:=[some (.d (.lst (ns.map D.int))),some (.d (.int j)),some .z,some (.d (x70 m ps)),some (.d (x70 m' ps')),some (.d (.tup (pl.map b60))),some (.d (.tup (pl'.map b60))),some (.d (pr c)),o8,o9,o10]
abbrev bIn(n:Nat):Sm:=match A91 with
 |.seq (.fr _ _ _ b) _=>rec b (λ_ r=>tl r) n|_=>.nil
theorem w92(v w:Int × Int):((v.1 == w.1)&&((v.2 == w.2)&&true))=decide (v=w):=by
 rw[Ä0,Ó4,Á,beq_iff_eq,beq_iff_eq,decide_eq_true_eq];exact⟨λh=>Prod.ext h.1 h.2,λh=>by rw[h];exact⟨rfl,rfl⟩⟩
theorem j52(k:Nat)(g:c50 m ps)(hp:f30 m pl)(g':c50 m' ps')(hp':f30 m' pl')(hc:IsC c){ns:List Int}{j:Nat}{z:Z}{o9 o10:Option S}{Q:O->Z->Prop}{E:Nat->Z->Prop}{al:Bool}(hal:al=H40 (fl (ps.length + 1) (d40 m ps pl)) (fl (ps'.length + 1) (d40 m' ps' pl')))
  (q:∀ o8 o9 o10:Option S,Q (.nx (laE ns j m m' ps ps' pl pl' c o8 o9 o10)) z):WS (N70 T (k + 37 + 2)) true (bIn 7) (laE ns j m m' ps ps' pl pl' c (some (.d (.bl al))) o9 o10) z Q E:=by
 refine(I80 (.d (.int (b61 (u10 m ps pl c * c.2 ^ ps'.length - u10 m' ps' pl' c * c.2 ^ ps.length)))) (laE ns j m m' ps ps' pl pl' c (some (.d (.bl al))) (some (.d (.int (b61 (u10 m ps pl c * c.2 ^ ps'.length - u10 m' ps' pl' c * c.2 ^ ps.length))))) o10) ?_ ?_ ?_ :)
 ·exact Wo (f41 (k + 26) g hp g' hp' hc z) ⟨rfl,rfl⟩
 ·rw[B70 rfl];rfl
 refine(I80 (.d (.bl (decide (F20 m ps pl c=F20 m' ps' pl' c)))) (laE ns j m m' ps ps' pl pl' c (some (.d (.bl al))) (some (.d (.int (b61 (u10 m ps pl c * c.2 ^ ps'.length - u10 m' ps' pl' c * c.2 ^ ps.length))))) (some (.d (.bl (decide (F20 m ps pl c=F20 m' ps' pl' c)))))) ?_ ?_ ?_ :)
 ·refine Wo (d70 (k + 27) g hp hc z) (Wo (d70 (k + 27) g' hp' hc z) ?_);refine⟨?_,rfl⟩;rw[← w92];rfl
 ·rw[B70 rfl];rfl
 have e1:=t81 (c:=c) (pl:=pl) (pl':=pl') g g' hc;have e2:=C51 (pl:=pl) (pl':=pl') g g' hc;rw[← hal] at e1;have e3:decide (F20 m ps pl c=F20 m' ps' pl' c)=decide (u10 m ps pl c * c.2 ^ ps'.length - u10 m' ps' pl' c * c.2 ^ ps.length=0):=decide_eq_decide.mpr e2;rw[e3];generalize u10 m ps pl c * c.2 ^ ps'.length - u10 m' ps' pl' c * c.2 ^ ps.length=x at e1 ⊢;have f1:(b61 x == 0)=decide (x=0):=by rw[Ä0,beq_iff_eq,decide_eq_true_eq];exact C41
 have f2:(!((b61 x == 0) == decide (x=0)))=false:=by rw[f1,beq_self_eq_true];rfl
 refine ib (b:=al) (λh=>?_) λh=>?_
 ·have hx:=e1 h;refine ie (b:=!(b61 x == 0)) (by rw[f1,decide_eq_true hx];rfl) ?_
  refine ie (b:=!((b61 x == 0) == decide (x=0))) f2 ?_;exact q _ _ _
 ·refine ie (b:=!((b61 x == 0) == decide (x=0))) f2 ?_;exact q _ _ _
theorem x02(k:Nat)(g:c50 m ps)(hp:f30 m pl)(g':c50 m' ps')(hp':f30 m' pl')(hc:IsC c){ns:List Int}{j:Nat}{z:Z}{o8 o9 o10:Option S}{Q:O->Z->Prop}{E:Nat->Z->Prop}
  (q:∀ o8 o9 o10:Option S,Q (.nx (laE ns j m m' ps ps' pl pl' c o8 o9 o10)) z):WS (N70 T (k + 37 + 2)) true (bIn 4) (laE ns j m m' ps ps' pl pl' c o8 o9 o10) z Q E:=by
 have hr:=C71 (k + 25) g hp hc z;refine Wo hr ?_;refine(I80 (.d (.bl (H40 (fl (ps.length + 1) (d40 m ps pl)) (fl (ps'.length + 1) (d40 m' ps' pl'))))) (laE ns j m m' ps ps' pl pl' c (some (.d (.bl (H40 (fl (ps.length + 1) (d40 m ps pl)) (fl (ps'.length + 1) (d40 m' ps' pl')))))) o9 o10) ?_ ?_ ?_ :)
 ·exact Wo (w90 (k + 28) g hp g' hp' z) ⟨rfl,rfl⟩
 ·rw[B70 rfl];rfl
 have ea:=S91 (m:=m) (m':=m') (ps:=ps) (ps':=ps') (pl:=pl) (pl':=pl');generalize hal:H40 (fl (ps.length + 1) (d40 m ps pl)) (fl (ps'.length + 1) (d40 m' ps' pl'))=al at ea ⊢;have el:(((ps.map pr).length:Int) == ((ps'.map pr).length:Int))=decide (ps.length=ps'.length):=by
  rw[Ë,Ë,Ä0,beq_iff_eq,decide_eq_true_eq];omega
 refine ib (b:=(((ps.map pr).length:Int) == ((ps'.map pr).length:Int))) (λh=>?_) λh=>?_
 ·refine Wo (t90 (k + 28) g hp z) (Wo (t90 (k + 28) g' hp' z) ?_);refine(a00 (i92 _ _ _ _) ?_ :);rw[el] at h;rw[h,Ä6] at ea;refine ie (b:=!(al == H40 (fl (ps.length + 1) (t80 m ps pl)) (fl (ps'.length + 1) (t80 m' ps' pl')))) (by rw[← ea,beq_self_eq_true];rfl) ?_
  exact j52 k g hp g' hp' hc hal.symm q
 ·rw[el] at h;rw[h,Ì0] at ea;refine ie (b:=!(al == false)) (by rw[ea];rfl) ?_
  exact j52 k g hp g' hp' hc hal.symm q
end
abbrev l22(L:Int):Int:=if (if (3:Int) < L then 3 else L) > 1 then(if (3:Int) < L then 3 else L) else 1
theorem j62(k:Nat)(ns:List Int):b40 T (k + 40) g92 [.d (.lst (ns.map D.int))] none=some (.ok (.d (.bl true)) none):=by
 refine W.ok (k50 (k:=k + 37) (ps:=1) (ns:=11) (b:=A91) rfl rfl (-0) ?_)
 have hN:0<=l22 ((ns.map D.int).length:Int)/\l22 ((ns.map D.int).length:Int) < 100000:=by
  unfold l22;split <;> (try split) <;> omega
 refine(a00 (V00 (m:=l22 ((ns.map D.int).length:Int)) hN.1 hN.2) ?_ :);refine I70 (λxs ρ z=>(∀ x∈xs,∃ j:Nat,x=.int j)/\∃ o1 o2 o3 o4 o5 o6 o7 o8 o9 o10:Option S,ρ=[some (.d (.lst (ns.map D.int))),o1,o2,o3,o4,o5,o6,o7,o8,o9,o10]) _ ⟨λx hx=>?_,_,_,_,_,_,_,_,_,_,_,rfl⟩ ?_ ?_
 ·obtain⟨i,_,rfl⟩:=â.mp hx;exact⟨i,rfl⟩
 ·rintro x r ρ z1 ⟨hx,o1,o2,o3,o4,o5,o6,o7,o8,o9,o10,rfl⟩;obtain⟨j,rfl⟩:=hx x Ð;obtain⟨sn,sb,hz1,hst⟩:=B11 (k + 35) ns j z1;refine Wo hst ?_;refine(P90 (k + 34) hz1 (-0) (-0)).imp λs z3 ⟨hz3,m,ps,e,g,_⟩=>?_
  subst e;refine(P90 (k + 34) hz3 (-0) (-0)).imp λs z4 ⟨hz4,m',ps',e,g',_⟩=>?_
  subst e;refine(w80 (k + 35) (t:=.tup (ps.map pr)) g.m1 g.m6 hz4).imp λs z5 ⟨hz5,pl,e,hp⟩=>?_;subst e;refine(w80 (k + 35) (t:=.tup (ps'.map pr)) g'.m1 g'.m6 hz5).imp λs z6 ⟨hz6,pl',e,hp'⟩=>?_;subst e;refine(Q00 (k + 35) hz6).imp λs z7 ⟨hz7,c,e,hc⟩=>?_;subst e;refine(x02 k g hp g' hp' hc λo8 o9 o10=>?_ :);exact⟨λx hx'=>hx x (Ì _ hx'),_,_,_,_,_,_,_,_,_,_,rfl⟩
 ·rintro ρ z1 ⟨_,o1,o2,o3,o4,o5,o6,o7,o8,o9,o10,rfl⟩;exact⟨rfl,rfl⟩
theorem pure:∀ ns:List Int,ns.length<=63->b40 (tabOf rows) 40 g92 [.d (.lst (ns.map D.int))] none=some (.ok (.d (.bl true)) none):=λns _=>by
 rw[H82];exact j62 0 ns
open PySem L2 Q
theorem ok:rows.all (U31 (D00 rows) nums cn)=true:=by decide +kernel
theorem bd:m40 rows:=⟨λ_ _ _ _ _ _ us hl=>by obtain⟨_,_,rfl⟩:=us2 hl;rfl,
 λ_ _ _ _ _ _ us hl=>by obtain⟨_,_,rfl⟩:=us2 hl;rfl,
 λ_ _ _ _ _ _ us hl=>by obtain⟨_,_,rfl⟩:=us2 hl;rfl,
 λ_ _ _ _ _ _ us hl=>by obtain⟨_,_,rfl⟩:=us2 hl;rfl,
 λ_ _ _ _ _ _ us hl=>by obtain⟨_,_,rfl⟩:=us2 hl;rfl,
 λ_ _ _ _ _ _ us hl=>by obtain⟨_,rfl⟩:=us1 hl;rfl,
 λ_ _ _ _ _ _ us hl=>by obtain⟨_,_,rfl⟩:=us2 hl;rfl,
 λ_ _ _ _ _ _ us hl=>by obtain⟨_,_,rfl⟩:=us2 hl;rfl,
 λ_ _ _ _ _ _ us hl=>by obtain⟨_,_,rfl⟩:=us2 hl;rfl,
 λ_ _ _ _ _ _ us hl=>by obtain⟨_,rfl⟩:=us1 hl;rfl,
 λ_ _ _ _ _ _ us hl=>by obtain⟨_,rfl⟩:=us1 hl;rfl,
 λ_ _ _ _ _ _ us hl=>by obtain⟨_,_,rfl⟩:=us2 hl;rfl,
 λ_ _ _ _ _ _ us hl=>by obtain⟨_,rfl⟩:=us1 hl;rfl,
 λ_ _ _ _ _ _ us hl=>by obtain⟨_,_,rfl⟩:=us2 hl;rfl,
 λ_ _ _ _ _ _ us hl=>by obtain⟨_,_,rfl⟩:=us2 hl;rfl,
 λ_ _ _ _ _ _ us hl=>by obtain⟨_,_,_,rfl⟩:=us3 hl;rfl,
 λ_ _ _ _ _ _ us hl=>by obtain⟨_,rfl⟩:=us1 hl;rfl,
 λ_ _ _ _ _ _ us hl=>by obtain⟨_,_,rfl⟩:=us2 hl;rfl,
 λ_ _ _ _ _ _ us hl=>by obtain⟨_,rfl⟩:=us1 hl;rfl,
 λ_ _ _ _ _ _ us hl=>by obtain⟨_,_,rfl⟩:=us2 hl;rfl,
 λ_ _ _ _ _ _ us hl=>by obtain⟨_,rfl⟩:=us1 hl;rfl,
 λ_ _ _ _ _ _ us hl=>by obtain⟨_,_,rfl⟩:=us2 hl;rfl,
 λ_ _ _ _ _ _ us hl=>by obtain⟨_,_,rfl⟩:=us2 hl;rfl,
 λ_ _ _ _ _ _ us hl=>by obtain⟨_,_,_,_,rfl⟩:=us4 hl;rfl,
 λ_ _ _ _ _ _ us hl=>by obtain⟨_,_,_,_,rfl⟩:=us4 hl;rfl,
 λ_ _ _ _ _ _ us hl=>by obtain⟨_,_,rfl⟩:=us2 hl;rfl,
 λ_ _ _ _ _ _ us hl=>by obtain⟨_,_,_,rfl⟩:=us3 hl;rfl,
 λ_ _ _ _ _ _ us hl=>by obtain⟨_,_,_,_,_,rfl⟩:=us5 hl;rfl,
 λ_ _ _ _ _ _ us hl=>by obtain⟨_,rfl⟩:=us1 hl;rfl,
 λ_ _ _ _ _ _ us hl=>by obtain⟨_,_,rfl⟩:=us2 hl;rfl,
 λ_ _ _ _ _ _ us hl=>by obtain⟨_,_,rfl⟩:=us2 hl;rfl,
 λ_ _ _ _ _ _ us hl=>by obtain⟨_,_,_,rfl⟩:=us3 hl;rfl,
 λ_ _ _ _ _ _ us hl=>by obtain⟨_,_,rfl⟩:=us2 hl;rfl,
 λ_ _ _ _ _ _ us hl=>by obtain⟨_,_,rfl⟩:=us2 hl;rfl,
 λ_ _ _ _ _ _ us hl=>by obtain⟨_,_,rfl⟩:=us2 hl;rfl,
 λ_ _ _ _ _ _ us hl=>by obtain⟨_,_,rfl⟩:=us2 hl;rfl,
 λ_ _ _ _ _ _ us hl=>by obtain⟨_,_,rfl⟩:=us2 hl;rfl,
 λ_ _ _ _ _ _ us hl=>by obtain⟨_,_,rfl⟩:=us2 hl;rfl,
 λ_ _ _ _ _ _ us hl=>by obtain⟨_,rfl⟩:=us1 hl;rfl,
 λ_ _ _ _ _ _ us hl=>by obtain⟨_,_,_,rfl⟩:=us3 hl;rfl,
 λ_ _ _ _ _ _ us hl=>by obtain⟨_,rfl⟩:=us1 hl;rfl,trivial⟩
def asks:l70:=P00 rows nums cn
def prg:Program:=ê
def vq:Program:=view prg [56]
def loose:List Str:=prg.boundNames.filter λx=>!(x == ("law":Str))
def runL(w:ö)(os:OsState):=(B60 PySem.W.through (PySem.W.stepOk 11 (some (.ref 6))) (PySem.W.stepT (denote treeTable) prg w) 20000 (Q61 w os) (PySem.W.topStub prg)).map (λs =>
   (PySem.W.staticsOk (Ì1 prg.main.body) (PySem.W.boot_heap w.params) s.abs.heap&&PySem.W.namesBound prg s.abs.heap&&PySem.W.gensDone s.abs&&PySem.W.laidKept (PySem.W.boot_heap w.params) s.abs.heap,
    PySem.W.openSeen vq loose (Ì1 prg.main.body) (λ_=>true) true s.abs,asks.obs s.abs))
def runR(w:ö):=some (true,PySem.W.openGood vq loose,asks.due w)
def _root_.PySem.W.Fast.tw13135940823118033521:PySem.Program:=ê
theorem _root_.PySem.W.Fast.te13135940823118033521:ê=PySem.W.Fast.tw13135940823118033521:=rfl
theorem twins:(λ(_:runL=runL/\runR=runR)=>true) ⟨rfl,rfl⟩=true:=by k_qdec
theorem run_eq:∀ (w:ö) (os:OsState),PySem.W.Fast.tw14075725262101462980 w os=PySem.W.Fast.tw18139657281711212703 w:=λw os=>by kernel_rfl
theorem left:PySem.W.LeftO ê vq loose (λ_=>true) asks.hook.obs asks.hook.val 20000:=Q71 (by kernel_rfl) rfl (λ_=>by kernel_rfl) λw os =>
 (congrFun (congrFun PySem.W.Fast.te14075725262101462980 w) os).trans ((run_eq w os).trans (congrFun PySem.W.Fast.te18139657281711212703 w).symm)
end K3
open PySem PySem.W PyProof.Rows
set_option maxRecDepth 100000 in
set_option maxHeartbeats 0 in
theorem PySem.Challenge.cw_tiechances_k83_whole_polynomials_holds : PySem.Challenge.rw_tiechances_k83_whole_polynomials.Holds := by
 w_on;o_law
 refine holds_open (q:=K3.vq) (loose:=K3.loose) (Xt:=λ_=>true) (XP:=λ_ _=>True) (Yf:=K3.asks.hook.obs) (Ya:=K3.asks.hook.val) (YP:=K3.asks.hook.says) K3.left K3.asks.hook.of K3.asks.hook.keeps (λ_ _=>trivial) (λ_ _ _ _ _=>trivial) (by rfl) (by rfl) (by rfl) (λs _=>recFacts_of rfl) rfl (by first | assumption | decide +kernel) (by decide +kernel) ⟨rfl,rfl,rfl,rfl,rfl,by decide +kernel⟩ ?hw ?hc
 case hw=>w_witness2
 case hc=>exact Q.A81 (l:=PySem.Challenge.rw_tiechances_k83_whole_polynomials) (n:=63) (k:=40) (x:="_law_script") rfl (-0) rfl ⟨rfl,by decide,by decide⟩ (Q.R21 (k:=37) (iL:=40) K3.ok K3.bd rfl rfl rfl K3.pure)