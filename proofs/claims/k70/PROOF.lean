import PyProof.Rows.All
import Wide.All
import OpenK.AllK
import Wide.FinOn
import Lean
import PyProof.EqAt
import PyProof.EqKinds
import PyProof.TupleCall
import KE.KSortTup
import OpenK.KRaise
import OpenK.KOwn
import PyProof.ExcBaseAll.ValueError
import KE.KIsAll
import PyProof.ExcAttrAll.ValueError
import PyProof.NsDelKeeps
import PyProof.RulesAs
import KE.KTryMore
import KE.KLam
import KE.KNestM
import OpenK.KEqL
import PyProof.Rows.EqDataRows
import PyProof.NeKinds
import PyProof.FactsAll.dict
import PyProof.FactsAll.subtypes
import PyProof.ListRange
import PyProof.TupleOfGen
import PyProof.TupleOfSeq
import KE.KTupSum
import PyProof.Rows.SumAny
import PySem.Challenge.RW_tiechances_k70_worths_of_ties
local macro_rules
|`(∅)=>`(by omega)
|`(-0)=>`(by decide)
local macro_rules
|`(tactic|omega)=>`(tactic|lia)
open PySem renaming wpAny_bind→À,Value→Ã,Shared→Å,Addr→Æ,wpAny_pure→Ç,Expr→Ï,wpAny→Ñ,model→Ö,Program→Ü,mainGlobals→Ý,Heap→æ,bootBuiltins→è,World→ì,wpAny_newObj_type→ò,starEach→ó,Around→ö,compareOp→ø,Scope→ú,wpAny_field→À4,mem_of_lookup→À8,wpAny_truthy_bool→Á3,sizeLine_eq→Á4,wpAny_callSpecial?_slot→Á8,wpAny_mono→Â4,binaryOp→Ã1,wpAny_holding→Ã7,swappedStores→Ã8,FuncData→Ä0,Builtin→Ä3,Stmt→Ä4,Paired→Ä5,wpAny_call_entry→Ä7,IsPair→Ä9,cLine→Å6,wpAny_seqItems→Æ2,wpAny_setField_rec→Æ5,wpAny_Call_Name_kw→Æ6,call_meets→Æ9,wpAny_passesOwn→Ç1,rawInt→Ç2,Str→Ç3,Env→Ç4,foldedSetIterable→Ç6,assignEach→È1,NameKind→É4,codeAny_builtin→É5,wpAny_pyIter_tuple→É8,wpAny_typeOf→Ê9,codeAny_mono→Ë0,builtinsNs→Ë9,Arguments→Ì5,wpAny_loadName_local→Ì7,sliceBounds→Ì8,Operator→Í0,wpAny_execs_nil→Í6,importedModules→Í8,wpAny_rule→Ï5,wpAny_Name→Ï6,IsZip→Ð2,getItem→Ñ1,codeAny→Ñ2,wpAny_comprehension_free→Ñ7,wpAny_attempt→Ñ8,backTo→Ñ9,wpAny_execs_cons→Ò9,swapsWith→Ó0,IsRange→Ó9,wpAny_updateSeq_pair→Õ2,assign→Õ5,IsPart→Õ7,codeAmong→Ö0,wpAny_loadName_cell→Ö5,wpAny_standAt→Ø1,wpAny_onRaise→Ø2,foldedForSure→Ø4,wpAny_call→Ø6,typeIs_int→Ø7,wpAny_sequenceKey→Ú0,holding→Ú1,callerA→Ú2,noFill_tuple_add→Û6,checkBuiltinCall→Û8,TriplesOk→Û9,seqIndex_of→Ü4,letOwnedTupleGo→Ü8,wpAny_newFunctionEnv_cells→Ý2
open Bool renaming and_eq_true→Á,false_ne_true→Ò,not_eq_true'→ð,or_eq_true→Å5,true_and→Æ4,not_eq_false'→È5,false_eq_true→È7,and_true→Ï4,eq_iff_iff→Ò4,false_and→Ó8,and_eq_false_iff→Ý8
open PySem.W renaming Frag→Â,kas_item→ñ,kas_desc→Á9,kas_place→Ã3,codeHdIn→Ä2,kia_one→Æ0,kas_rev→Æ7,kas_asc→Æ8,tabObj→Ç0,boot_heap→È3,nsIn→È9,excIn→Ê6,kitOne→Ì0,keepIn→Ì1,kas_descPart→Ï0,kas_sort→Ï9,kia_tup→Ô3,kas_count→Û7
open PySem.Heap renaming get?_push_of_some→Ä,get?_push_size→Î,lt_size→ß,size_push→Í7,IsTuple→Ñ5,SameBut→Ö4,get?_update_other→Ý0,get?_update_self→Ý6
open List renaming length_map→È,mem_cons_of_mem→É,mem_cons_self→Ê,getElem?_eq_getElem→Ð,getD_eq_getElem?_getD→Ó,length_cons→Ô,size_toArray→Õ,getElem?_map→Ø,getElem?_eq_some_iff→Ú,mem_map→á,getElem?_set_ne→ã,mem_of_getElem?→ä,all_eq_true→ç,replicate→é,mem_append_right→ê,getElem?_set_self→ë,range→î,mem_cons→ô,map_map→ù,lookup_cons→ü,length_range→þ,mem_singleton→ÿ,filterMap_cons→À1,range'_succ→À2,range'→À7,length_set→Á0,getElem_mem→Á2,not_mem_nil→Á6,mem_cons→Á7,length_append→Â0,all_cons→Â1,mem_append→Â3,length_nil→Ã0,length_take→Ã4,drop_eq_getElem_cons→Ã5,all_eq_true→Ã6,map_append→Ã9,getElem?_append_right→Ä6,mem_append_left→Å0,map_cons→Å1,length_drop→Å2,mem_range→Å7,replicate_succ→Å9,zip_cons_cons→È4,getElem?_cons_zero→É0,nil_append→É1,append_nil→É2,take_of_length_le→É6,flatten_cons→Ê3,append_assoc→Ê4,forIn_cons→Ë3,lookup→Ë4,getElem?_range→Ì3,pairwise_cons→Í5,map_congr_left→Î6,getElem?_append_left→Î7,cons_append→Ð0,isEmpty_iff→Ð5,getElem?_replicate→Ð6,pairwise_lt_range→Ñ3,drop_eq_nil_of_le→Ñ4,nodup_cons→Ò2,reverse_cons→Ò6,contains_iff_mem→Ò7,range_eq_range'→Ó3,mem_of_mem_drop→Ó4,getElem?_append→Ó5,length_reverse→Ô2,forIn_nil→Ô4,mem_filterMap→Ô8,getElem?_take→Ô9,getElem?_drop→Õ0,set_eq_take_append_cons_drop→Õ6,zip_nil_left→Ö2,mem_filter→Ù8,perm_append_singleton→Û3,length_eraseIdx_of_lt→Û4,Pairwise→Ü5,length_replicate→Ý4,getElem?_eq_none→Ý5
open Nat renaming le_refl→Ë,lt_of_lt_of_le→Ù,le_trans→Þ,ne_of_lt→å,lt_irrefl→À3,zero_le→Å8,lt_of_le_of_lt→Æ3,le_add_right→È0,lt_succ_of_lt→Ë5,pow_le_pow_right→Ë6,zero_add→Í1,le_of_lt→Í2,ne_of_gt→Î5,max→Ò1,mul_comm→Ö6,le_of_eq→Ö7,succ_le_succ→Ù1,lt_succ_self→Ù2,not_lt_zero→Ú6,le_mul_of_pos_left→Ý3
open Option renaming bind_eq_some_iff→Ì,map_eq_some_iff→Í,map→Ì6,map_eq_some_iff→Ó1,ne_none_iff_exists'→Ù7,isSome_iff_exists→Û2
open ForInStep renaming yield→Û,done→à
open PySem.Value renaming none→â,type→Â7,ref→Â8,bool→Ì9,builtin→Ï1,notImplemented→Ó2
open PySem.NameKind renaming free→í,cell→Ä8
open PyProof.Rows renaming slot_tuple_getitem→ï,callWith_type1→À0,SortSt→Á5,seqObj→Â9,IntsAre→É7,SortKind→Ë1,IsTup→Í3,envOfC→Í9,listItems_at→Î9,AllBare→Ñ6,slicePart_none→Õ3,oneType'→Õ4,pendingOf→Õ9,listUpdate_at→Ø3,assignInOrder_cons→Ø8,args_tuple_getitem→Ø9,get?_update_seq→Ü9
open PySem.Challenge renaming pw_tiechances_k70_worths_of_ties→õ
open Array renaming getElem?_toList→û,extract→Å3,getElem?_eq_getElem→Ç7,length_toList→È6,getD_eq_getD_getElem?→Ì4,toArray_toList→Î4,map_extract→Ï8,size→Ô7,map_append→Ø0
open False renaming elim→ý
open PySem.Obj renaming mapSeq→À5
open PySem.Str renaming ofString→À6
open Option.some renaming inj→À9,injEq→È2
open Int renaming mul_le_mul_of_nonneg_left→Á1,toNat_natCast→Ã2,mul_comm→Ç8,eq_ofNat_of_zero_le→É3,le_trans→É9,le_of_lt→Ê0,mul_pos→Ê2,eq_of_mul_eq_mul_right→Î3,natCast_pow→Ï7,lt_of_le_of_lt→Õ8,zero_add→Ö8,ediv_nonneg→Ú7,mul_nonneg→Ü1,mul_le_mul→Ü2
open Ne renaming symm→Â2
open PySem.Builtin.Range renaming rangeSize→Â5,small→Ð3
open PySem.AutoSeq1 renaming wpAny_loadPart'→Â6,wpAny_loadPart'→Ä1,idx_int→Õ1,sub_tuple_tuple→Ù9
open PySem.Builtin.Tuple renaming tupleExact→Å4
open PyProof.Rows.KeyOrd renaming kle_refl→Æ1,kle_of_klt→Î2,kle_trans→Ö3
open PySem.Builtin.Slice renaming slicePlaces→Ç5,sliceAdjust→Ë7,sliceApplied→Ò5
open PySem.F renaming slot_tuple_iterator_next→Ç9,args_tuple_add_2→Î0,plainAttrs_list→Ï2,entry_tuple_add→Ï3,slot_tuple_add→Ð1,slot_tuple_lt→Ð9,called_tuple→Ò0,slot_zip_next→Ó6,slot_int_rmul→Ó7,args_tuple_mul_2→Ö9,excBase_ValueError→Ù0,entry_tuple_mul→Ù5,type_list_append→Ú4,slot_list_append→Ú5,slot_tuple_mul→Ú8,plain_tuple_new→Ú9,plain_list_iadd→Û0,args_tuple_lt_2→Û1,entry_tuple_lt→Ü0,args_tuple_iterator_next_1→Ü3,entry_tuple_iterator_next→Ü6
open True renaming intro→È8
open PySem.Heap.SameBut renaming update→Ê1
open PyProof.Rows.SortSt renaming mk'→Ê5
open PySem.Builtin.List renaming listExtendWith→Ê7,listTooLong→Ë8
open Array.Perm renaming refl→Ê8
open PySem.Builtin.SmallTypes renaming ownedTupleIsFree→Ë2
open PySem.W.Looks renaming ld→Ì2,of_pure→Ø5,here→Ú3
open PySem.Calls renaming Name_function_global→Í4,spliced_nil→Î8,spliced_cons→Ô6,loadGlobal_global→Ü7,evalArgs_plain→Ý7
open Prod.mk renaming injEq→Î1
open Or renaming inl→Ð4,inr→Ö1
open PySem.W.KasT renaming ret→Ð7
open PySem.Heap.IsSliceOf renaming new→Ð8
open PySem.PyData renaming depthAll→Ñ0,eqv→Ù6
open Iff renaming rfl→Ò3
open PySem.Around renaming under_plainId→Ò8,frames_deeper→Ý1
open Sum renaming inr→Ô0,inl→Ô1
open PySem.SeqAt renaming EqAt→Ô5
open List.Perm renaming eq_of_pairwise→Ù3
open List.Pairwise renaming filter→Ù4
open PySem.Builtin.Int renaming intBits→Û5
local macro_rules
|`(command|def $i:declId $s:optDeclSig $v)=>`(noncomputable def $i:declId $s:optDeclSig $v)
|`(command|abbrev $i:declId $s:optDeclSig $v)=>`(noncomputable abbrev $i:declId $s:optDeclSig $v)
open PySem.W (methodObj hideAll hideAll_get of_hideAll callWith_K cellsFrom_some fnOf codeRec_of kitx_none kitx_bool kitx_int kitx_str kitx_tuple kitx_list kitx_dict kitAny kia_tup envX kla_fn codeHd_of_K kla_obj mg_none_of mg_of view)
open PySem.Heap (lt_size size_push)
open List (range filterMap_cons mem_cons_self mem_cons_of_mem mem_append_left mem_append_right append_nil of_mem_zip replicate length_take mem_of_getElem? length_append length_map size_toArray length_drop map_nil map_cons length_set reverse_cons replicate_succ flatten_cons foldl append_assoc lookup_cons forIn_cons toArray forIn_nil mem_cons not_mem_nil range' length_nil nil_append length_range zip_cons_cons length_cons all_eq_true cons_append map_id all_nil mapM_cons map_congr_left getElem_mem all_map all_cons drop_eq_getElem_cons drop_length filter_cons map_drop map_take range_succ)
open Array (length_toList toList getD size_map map_extract push extract setIfInBounds toArray_toList)
open Nat (ne_of_gt zero_le le_add_right ble beq lt_succ_of_lt pow_succ mul_add)
open Int (mul_one toNat_natCast emod_nonneg emod_lt_of_pos gcd natCast_pow le_of_dvd natAbs_mul mul_pos pow_add)
open PyProof.Rows (lt_int)
open PySem.Builtin.Slice (sliceAdjust slicePlaces sliceApplied sliceFields)
open PySem.Builtin.Tuple (tupleItemsOf tupleExact tupleCompareSizes tupleTooMany tupleIsExact)
open Bool (and_eq_true false_eq_true not_eq_true' or_eq_true not_eq_false')
open Option (getD_none map_some map_eq_some_iff)
open PySem.Builtin.SmallTypes (nextOf ownedTupleIsFree ownedTupleHandOut)
set_option bootstrap.genMatcherCode false
set_option compiler.extract_closed false
set_option genInjectivity false
set_option genSizeOf false
set_option autoImplicit true
set_option relaxedAutoImplicit true
set_option Elab.async false
set_option linter.all false
set_option maxRecDepth 100000
namespace L2
open PySem PySem.Spec PyProof.Rows
abbrev Key:=Sum Int Str
def f32:Key->Ã->Bool
 |.inl k,v=>Ã.isInt k v|.inr x,v=>Ã.isStrOf x v
def J72(w:ì):Key->Int
 |.inl k=>hashInt k|.inr x=>hashStr w x
theorem c70:∀ {k:Key}{v:Ã},f32 k v=true->(∃ i t,k=Ô1 i/\v=Ã.int i t)∨(∃ x t,k=Ô0 x/\v=Ã.str x t)
 |.inl i,v,h=>by
  obtain⟨t,e⟩:=Ã.isInt_shape (k:=i) (v:=v) h;exact .inl ⟨i,t,rfl,e⟩
 |.inr x,v,h=>by
  obtain⟨t,e⟩:=Ã.isStrOf_shape (x:=x) (v:=v) h;exact .inr ⟨x,t,rfl,e⟩
theorem f42(a b:Int):decide ((Ô1 a:Key)=Ô1 b)=(a == b):=by
 by_cases e:a=b
 ·subst e;simp
 ·have h:¬ (Ô1 a:Key)=Ô1 b:=λq=>e (Ô1.inj q);rw[decide_eq_false h];exact(beq_eq_false_iff_ne.mpr e).symm
theorem f52(a b:Str):decide ((Ô0 a:Key)=Ô0 b)=decide (a=b):=by
 by_cases e:a=b
 ·subst e;simp
 ·have h:¬ (Ô0 a:Key)=Ô0 b:=λq=>e (Ô0.inj q);rw[decide_eq_false h,decide_eq_false e]
theorem f62(a:Int)(b:Str):decide ((Ô1 a:Key)=Ô0 b)=false:=decide_eq_false (λq=>nomatch q)
theorem f72(a:Str)(b:Int):decide ((Ô0 a:Key)=Ô1 b)=false:=decide_eq_false (λq=>nomatch q)
def o41(prog:Ü)(w:ì):PySem.KeyKind prog w Key where
 is:=f32
 hash:=J72 w
 inj:=λv a b ha hb=>by
  rcases c70 ha with ⟨i,t,rfl,rfl⟩ | ⟨x,t,rfl,rfl⟩
  ·rcases c70 hb with ⟨j,u,rfl,e⟩ | ⟨y,u,rfl,e⟩
   ·injection e with e1 _;rw[e1]
   ·exact nomatch e
  ·rcases c70 hb with ⟨j,u,rfl,e⟩ | ⟨y,u,rfl,e⟩
   ·exact nomatch e
   ·injection e with e1 _;rw[e1]
 byValue:=λk v h=>by
  rcases c70 h with ⟨i,t,rfl,rfl⟩ | ⟨x,t,rfl,rfl⟩ <;> rfl
 pyHash:=λhv h=>by
  rcases c70 hv with ⟨i,t,rfl,rfl⟩ | ⟨x,t,rfl,rfl⟩
  ·exact wpAny_pyHash_int h
  ·exact wpAny_pyHash_str h
 eqBool:=λhu hv h=>by
  rcases c70 hu with ⟨i,t,rfl,rfl⟩ | ⟨x,t,rfl,rfl⟩
  ·rcases c70 hv with ⟨j,u,rfl,rfl⟩ | ⟨y,u,rfl,rfl⟩
   ·rw[f42] at h;exact wpAny_eqBool_int h
   ·rw[f62] at h;exact Ô5.int_str i t y u _ _ _ _ h
  ·rcases c70 hv with ⟨j,u,rfl,rfl⟩ | ⟨y,u,rfl,rfl⟩
   ·rw[f72] at h;exact Ô5.str_int x t j u _ _ _ _ h
   ·rw[f52] at h;exact wpAny_eqBool_str h
 «strs»:=λk x t v h=>by
  rcases c70 h with ⟨i,u,rfl,e⟩ | ⟨y,u,rfl,e⟩
  ·exact nomatch e
  ·injection e with e1 _;subst e1;cases v <;> rfl
inductive V where
 |non | bl (b:Bool) | int (i:Int) | str (x:Str) | byt (b:Array UInt8) | flt (b:UInt64) | ref (a:Addr) | ty (n:String)
 deriving DecidableEq
def RelV:V->Ã->Prop
 |.non,u=>u=â|.bl b,u=>u=Ì9 b|.int i,u=>∃ t,u=Ã.int i t|.str x,u=>∃ t,u=Ã.str x t|.byt b,u=>∃ t,u=Ã.bytes b t|.flt b,u=>∃ t,u=Ã.float b t|.ref a,u=>u=Â8 a|.ty n,u=>u=Â7 n
abbrev Vals:List V->List Ã->Prop:=Ä5 RelV
theorem Vals.length{xs:List V}{us:List Ã}(r:Vals xs us):xs.length=us.length:=Ä5.length r
theorem Vals.get:∀ {xs:List V}{us:List Ã}{i:Nat}{x:V},Vals xs us->xs[i]?=some x->∃ u,us[i]?=some u/\RelV x u
 |_,_,_,_,.nil,e=>by simp at e|_,_,0,_,.cons r _,e=>by simp at e;subst e;exact⟨_,rfl,r⟩
 |_,_,i + 1,x,.cons _ t,e=>by
  obtain⟨u,h1,h2⟩:=Vals.get (i:=i) (x:=x) t (by simpa using e)
  exact⟨u,by simpa using h1,h2⟩
theorem Vals.set{x:V}{u:Ã}(r:RelV x u):∀ {xs:List V}{us:List Ã} (i:Nat),Vals xs us->Vals (xs.set i x) (us.set i u)
 |_,_,_,.nil=>.nil|_,_,0,.cons _ t=>.cons r t|_,_,i + 1,.cons q t=>.cons q (Vals.set r i t)
theorem Vals.append:∀ {xs ys:List V}{us ws:List Ã},Vals xs us->Vals ys ws->Vals (xs++ys) (us++ws)
 |_,_,_,_,.nil,s=>s|_,_,_,_,.cons r t,s=>.cons r (Vals.append t s)
theorem Vals.take:∀ {xs:List V}{us:List Ã} (n:Nat),Vals xs us->Vals (xs.take n) (us.take n)
 |_,_,0,_=>.nil|_,_,_ + 1,.nil=>.nil|_,_,n + 1,.cons r t=>.cons r (Vals.take n t)
theorem Vals.drop:∀ {xs:List V}{us:List Ã} (n:Nat),Vals xs us->Vals (xs.drop n) (us.drop n)
 |_,_,0,r=>r|_,_,_ + 1,.nil=>.nil|_,_,n + 1,.cons _ t=>Vals.drop n t
def G72:Option V->Option Ã->Prop
 |some v,some u=>RelV v u|none,none=>True|_,_=>False
def KV{κ:Type}:List (κ × V)->List (κ × Ã)->Prop:=Ä5 λ(p:κ × V) (q:κ × Ã)=>p.1=q.1/\RelV p.2 q.2
def kV:Key->V
 |.inl i=>.int i|.inr x=>.str x
inductive HO where
 |lst (xs:List V)
 |tup (xs:List V)
 |dK (kvs:List (Key × V)) | dT (kvs:List (List Key × V))
 |set (S:Int->Bool) (n:Nat)
 |ins (C dx:Addr) (fs:List (Str × V))
 |own (x:Addr)
 |xd (fs:List (Str × V))
 |met (f x:Addr)
 |rng (lo hi:Int)
 |frz (o:Obj) (u:HO)
 |tbl (ps:Array Value)
 |ext (φ:Heap->Prop)
abbrev Hp:=Æ->Option HO
def upd(H:Hp)(a:Æ)(o:HO):Hp:=λb=>if b=a then some o else H b
theorem a90{H:Hp}{a:Æ}{o:HO}:upd H a o a=some o:=by unfold upd;rw[if_pos rfl]
theorem a40{H:Hp}{a b:Æ}{o:HO}(h:b≠a):upd H a o b=H b:=by unfold upd;rw[if_neg h]
theorem a80{H:Hp}{a b:Æ}{o:HO}(h:H a=some o)(h':H b=none):a≠b:=by
 intro e;subst e;rw[h] at h';cases h'
section
variable (P:Ü) (w:ì)
def h50(H:Hp)(h:æ)(a:Æ):HO->Prop
 |.lst xs=>xs.length<=sizeLine/\∃ (its:List Ã) (n:Nat),Vals xs its/\h.get? a=some { cls:=.type "list",data:=.seq its.toArray n }|.tup xs=>xs.length<=sizeLine/\∃ its:List Ã,Vals xs its/\Í3 h a its.toArray|.dK kvs=>kvs.length<=sizeLine/\(a == sysModules)=false/\∃ vs,KV kvs vs/\h.DictOf (o41 P w) a vs
 |.dT kvs=>kvs.length<=sizeLine/\(a == sysModules)=false/\∃ xs:List (List Key × Æ × Ã),
   Ä5 (λ(p:List Key × V) (q:List Key × Æ × Ã)=>p.1=q.1/\H q.2.1=some (.tup (p.1.map kV))/\RelV p.2 q.2.2) kvs xs /\
   ∃ o es ep,h.get? a=some o/\o.ExactDict/\o.data=.dict es ep/\es.toList=xs.map (entryOfKey (tupleKind (o41 P w)))/\(xs.map (·.1)).Nodup
 |.set S n=>h.SetOf (intKind P w) a S n
 |.ins C dx fs=>H dx=some (.own a)/\fs.length<=1000/\dx≠a/\h.get? a=some (PySem.W.instObj C dx) /\
   ∃ mA,h.Ns1 dx mA/\(∀ f,G72 (fs.lookup f) (mA f))/\PySem.Within mA (fs.map (·.1))
 |.own _=>∃ o,h.get? a=some o|.xd fs=>∃ mA,h.Ns1 a mA/\∀ f,G72 (fs.lookup f) (mA f)|.rng lo hi=>∃ t u v,h.get? a=some { cls:=.type "range",data:=.fields #[.int lo t,.int hi u,.int 1 v] }|.frz o u=>h.get? a=some o/\h50 H h a u|.tbl ps=>h.get? a=some { cls:=.none,data:=.fields ps }|.met f x=>h.get? a=some (methodObj (.ref f) (.ref x))|.ext φ=>φ h/\(∃ o,h.get? a=some o)/\∀ h1 h2:æ,φ h1->(∀ o,h1.get? a=some o->h2.get? a=some o)->φ h2
def HOk(H:Hp)(h:æ):Prop:=∀ a o,H a=some o->h50 P w H h a o
end
section
variable {P:Ü}{w:ì}{H H':Hp}{h h':æ}{a:Æ}{o:HO}
theorem h50.lt(x:h50 P w H h a o):a < h.objs.size:=by
 cases o with
 |lst xs=>obtain⟨_,_,_,_,e⟩:=x;exact ß e
 |tup xs=>obtain⟨_,_,_,p⟩:=x;exact p.lt
 |dK kvs=>obtain⟨_,_,_,_,o,_,_,e,_⟩:=x;exact ß e
 |dT kvs=>obtain⟨_,_,_,_,o,_,_,e,_⟩:=x;exact ß e
 |set S n=>obtain⟨o,_,_,_,e,_⟩:=x;exact ß e
 |ins C dx fs=>obtain⟨_,_,_,e,_⟩:=x;exact ß e
 |own y=>obtain⟨_,e⟩:=x;exact ß e
 |xd fs=>obtain⟨_,⟨_,_,_,e,_⟩,_⟩:=x;exact ß e
 |rng lo hi=>obtain⟨_,_,_,e⟩:=x;exact ß e
 |frz ob u=>obtain⟨e,_⟩:=x;exact ß e
 |tbl ps=>exact ß (show h.get? a=some _ from x)|met f y=>exact ß (show h.get? a=some _ from x)|ext φ=>obtain⟨_,⟨_,e⟩,_⟩:=x;exact ß e
theorem Ä5.S51{α β:Type}{F G:α->β->Prop}:∀ {l₁:List α}{l₂:List β},Ä5 F l₁ l₂->(∀ a b,F a b->G a b)->Ä5 G l₁ l₂
 |_,_,.nil,_=>.nil|_,_,.cons r t,f=>.cons (f _ _ r) (Ä5.S51 t f)
theorem h50.k41(x:h50 P w H h a o)(k:∀ b u,(b=a∨H b=some (.own a))->h.get? b=some u->h'.get? b=some u)
  (ho:∀ b,H b=some (.own a)->H' b=some (.own a)) (ht:∀ b xs,H b=some (.tup xs)->H' b=some (.tup xs)):h50 P w H' h' a o:=by
 induction o with
 |lst xs=>obtain⟨z,its,n,r,e⟩:=x;exact⟨z,its,n,r,k _ _ (.inl rfl) e⟩
 |tup xs=>obtain⟨z,its,r,ob,e,c⟩:=x;exact⟨z,its,r,ob,k _ _ (.inl rfl) e,c⟩
 |dK kvs=>obtain⟨z,y,vs,r,ob,es,ep,e,c⟩:=x;exact⟨z,y,vs,r,ob,es,ep,k _ _ (.inl rfl) e,c⟩
 |dT kvs =>
  obtain⟨z,y,xs,r,ob,es,ep,e,c⟩:=x;exact⟨z,y,xs,Ä5.S51 r λp q z=>⟨z.1,ht _ _ z.2.1,z.2.2⟩,ob,es,ep,k _ _ (.inl rfl) e,c⟩
 |set S n=>obtain⟨ob,es,ep,t,e,c⟩:=x;exact⟨ob,es,ep,t,k _ _ (.inl rfl) e,c⟩
 |ins C dx fs =>
  obtain⟨d,z,ne,e,mA,⟨od,es,ep,e2,c⟩,r⟩:=x;exact⟨ho _ d,z,ne,k _ _ (.inl rfl) e,mA,⟨od,es,ep,k _ _ (.inr d) e2,c⟩,r⟩
 |own y=>obtain⟨ob,e⟩:=x;exact⟨ob,k _ _ (.inl rfl) e⟩
 |xd fs=>obtain⟨mA,⟨od,es,ep,e,c⟩,r⟩:=x;exact⟨mA,⟨od,es,ep,k _ _ (.inl rfl) e,c⟩,r⟩
 |rng lo hi=>obtain⟨t,u,v,e⟩:=x;exact⟨t,u,v,k _ _ (.inl rfl) e⟩
 |frz ob u ih=>obtain⟨e,q⟩:=x;exact⟨k _ _ (.inl rfl) e,ih q⟩
 |tbl ps =>
  have e:h.get? a=some { cls:=.none,data:=.fields ps }:=x;show h'.get? a=some { cls:=.none,data:=.fields ps };exact k a _ (.inl rfl) e
 |met f y =>
  have e:h.get? a=some (methodObj (.ref f) (.ref y)):=x;show h'.get? a=some (methodObj (.ref f) (.ref y));exact k a _ (.inl rfl) e
 |ext φ=>obtain⟨p,⟨o,e⟩,st⟩:=x;exact⟨st _ _ p λo q=>k _ _ (.inl rfl) q,⟨o,k _ _ (.inl rfl) e⟩,st⟩
theorem HOk.lt(x:HOk P w H h)(e:H a=some o):a < h.objs.size:=(x a o e).lt
theorem HOk.fresh(x:HOk P w H h)(e:h.objs.size<=a):H a=none:=by
 cases q:H a with
 |none=>rfl|some u=>exact absurd (Ù (x.lt q) e) (À3 _)
theorem HOk.kept(x:HOk P w H h)(k:∀ b u,h.get? b=some u->h'.get? b=some u):HOk P w H h':=λa o e =>
 (x a o e).k41 (λb u _ q=>k b u q) (λ_ q=>q) λ_ _ q=>q
theorem HOk.laid(x:HOk P w H h)(k:∀ b u,h.get? b=some u->h'.get? b=some u)(hp:h.objs.size<=a)(new:h50 P w (upd H a o) h' a o):HOk P w (upd H a o) h':=λb u e=>by
 have hn:=x.fresh hp;by_cases hb:b=a
 ·subst hb;rw[a90] at e;cases e;exact new
 ·rw[a40 hb] at e;exact(x b u e).k41 (λc v _ q=>k c v q) (λc q=>by rw[a40 (a80 q hn)];exact q) λc xs q=>by rw[a40 (a80 q hn)];exact q
end
def Rd(H:Hp)(a:Æ)(u:HO):Prop:=H a=some u∨∃ o,H a=some (.frz o u)
theorem Rd.ok{P:Ü}{w:ì}{H:Hp}{h:æ}{a:Æ}{u:HO}(r:Rd H a u)(x:HOk P w H h):h50 P w H h a u:=by
 rcases r with r | ⟨o,r⟩
 ·exact x a u r
 ·obtain⟨_,q⟩:=x a _ r;exact q
def Mut:Option HO->Prop
 |some (.lst _)=>True|some (.dK _)=>True|some (.dT _)=>True|some (.set _ _)=>True|some (.ins _ _ _)=>True|some (.ext _)=>True|_=>False
section
variable {P:Ü}{w:ì}{H:Hp}{h h':æ}{x e:Æ}{o':HO}
theorem HOk.write(ok:HOk P w H h)(mu:Mut (H x))(he:e=x∨H e=some (.own x))(k:∀ b u,b≠e->h.get? b=some u->h'.get? b=some u)(heo:∃ u,h'.get? e=some u)
  (new:h50 P w (upd H x o') h' x o'):HOk P w (upd H x o') h':=λb u q=>by
 have nown:∀ c y,H c=some (.own y)->c≠x:=λc y r z=>by subst z;rw[r] at mu;exact mu
 have ntup:∀ c xs,H c=some (.tup xs)->c≠x:=λc xs r z=>by subst z;rw[r] at mu;exact mu
 by_cases hb:b=x
 ·subst hb;rw[a90] at q;cases q;exact new
 ·rw[a40 hb] at q;by_cases hbe:b=e
  ·have q':H b=some (.own x):=by
    rcases he with z | z
    ·exact absurd (hbe.trans z) hb
    ·rw[hbe];exact z
   rw[q] at q';cases q';obtain⟨v,hv⟩:=heo;exact⟨v,by rw[hbe];exact hv⟩
  ·refine(ok b u q).k41 (λc v hc r=>k c v ?_ r) (λc r=>by rw[a40 (nown c b r)];exact r) λc xs r=>by rw[a40 (ntup c xs r)];exact r
   rcases hc with rfl | hc
   ·exact hbe
   ·rintro rfl;rcases he with z | z
    ·exact nown c b hc z
    ·rw[hc] at z;cases z;exact hb rfl
end
structure Un(fs ex:List Addr)(H H':Hp)(h h':Heap):Prop where
 keep:∀ b o,h.get? b=some o->H b=none->b ∉ fs->b ∉ ex->h'.get? b=some o
 slot:∀ b o,h.get? b=some o->H b=none->b∈fs->b ∉ ex->∃ sl,h'.get? b=some { o with slots:=sl }
 free:∀ b o,h.get? b=some o->H b=none->b ∉ ex->H' b=none
 there:∀ b o,h.get? b=some o->b ∉ ex->∃ o',h'.get? b=some o'
 tups:∀ b xs,H b=some (.tup xs)->H' b=some (.tup xs)
 frzs:∀ b o u,H b=some (.frz o u)->H' b=some (.frz o u)
 tbls:∀ b ps,H b=some (.tbl ps)->∃ more,H' b=some (.tbl (ps++more))
section
variable {fs fs' ex ex':List Æ}{H H1 H2:Hp}{h h1 h2 h':æ}{a x e:Æ}{o:HO}
theorem Un.any(u:Un fs ex H H1 h h1){b:Æ}{ob:Obj}(q:h.get? b=some ob)(n:H b=none)(hx:b ∉ ex):∃ sl,h1.get? b=some { ob with slots:=sl }:=by
 by_cases hb:b∈fs
 ·exact u.slot b ob q n hb hx
 ·exact⟨ob.slots,u.keep b ob q n hb hx⟩
theorem Un.trans(a:Un fs ex H H1 h h1)(b:Un fs ex H1 H2 h1 h2):Un fs ex H H2 h h2 where
 keep:=λc ob q n hc hx=>b.keep c ob (a.keep c ob q n hc hx) (a.free c ob q n hx) hc hx
 slot:=λc ob q n hc hx=>by
  obtain⟨sl,e1⟩:=a.slot c ob q n hc hx;obtain⟨sl',e2⟩:=b.slot c _ e1 (a.free c ob q n hx) hc hx;exact⟨sl',e2⟩
 free:=λc ob q n hx=>by
  obtain⟨o',e1⟩:=a.there c ob q hx;exact b.free c o' e1 (a.free c ob q n hx) hx
 there:=λc ob q hx=>by
  obtain⟨o',e1⟩:=a.there c ob q hx;exact b.there c o' e1 hx
 tups:=λc xs q=>b.tups c xs (a.tups c xs q)
 frzs:=λc ob xs q=>b.frzs c ob xs (a.frzs c ob xs q)
 tbls:=λc ps q=>by
  obtain⟨m1,e1⟩:=a.tbls c ps q;obtain⟨m2,e2⟩:=b.tbls c _ e1;exact⟨m1++m2,by rw[e2,Array.append_assoc]⟩
theorem Un.kept(k:∀ b u,h.get? b=some u->h'.get? b=some u):Un fs ex H H h h' :=
 ⟨λb ob q _ _ _=>k b ob q,λb ob q _ _ _=>⟨ob.slots,k b ob q⟩,λ_ _ _ n _=>n,λb ob q _=>⟨ob,k b ob q⟩,λ_ _ q=>q,λ_ _ _ q=>q,λ_ ps q=>⟨#[],by rw[q];simp⟩⟩
theorem Un.refl:Un fs ex H H h h:=Un.kept λ_ _ q=>q
theorem Un.laid(k:∀ b u,h.get? b=some u->h'.get? b=some u)(hp:h.objs.size<=a)(hn:H a=none):Un fs ex H (upd H a o) h h' where
 keep:=λb u q _ _ _=>k b u q
 slot:=λb u q _ _ _=>⟨u.slots,k b u q⟩
 free:=λb u q n _=>by rw[a40 (å (Ù (ß q) hp))];exact n
 there:=λb u q _=>⟨u,k b u q⟩
 tups:=λb xs q=>by rw[a40 (a80 q hn)];exact q
 frzs:=λb u xs q=>by rw[a40 (a80 q hn)];exact q
 tbls:=λb ps q=>⟨#[],by rw[a40 (a80 q hn),q];simp⟩
theorem Un.write(mu:Mut (H x))(he:e=x∨H e=some (.own x))(k:∀ b u,b≠e->h.get? b=some u->h'.get? b=some u)(heo:∃ u,h'.get? e=some u):Un fs ex H (upd H x o) h h':=by
 have hx:∀ b,H b=none->b≠x:=λb n z=>by subst z;rw[n] at mu;exact mu
 have hb:∀ b,H b=none->b≠e:=λb n z=>by
  subst z;rcases he with r | r
  ·exact hx b n r
  ·rw[n] at r;cases r
 have hm:∀ b u,H b=some u->¬ Mut (some u)->b≠x:=λb u q nm z=>by subst z;rw[q] at mu;exact nm mu
 refine⟨λb u q n _ _=>k b u (hb b n) q,λb u q n _ _=>⟨u.slots,k b u (hb b n) q⟩,λb u q n _=>by rw[a40 (hx b n)];exact n,λb u q _=>?_,
  λb xs q=>by rw[a40 (hm b _ q λz=>z)];exact q,λb u xs q=>by rw[a40 (hm b _ q λz=>z)];exact q,λb ps q=>⟨#[],by rw[a40 (hm b _ q λz=>z),q];simp⟩⟩
 by_cases hbe:b=e
 ·subst hbe;exact heo
 ·exact⟨u,k b u hbe q⟩
theorem Un.mono(u:Un fs ex H H1 h h1)(hs:∀ b∈fs,b∈fs')(hx:∀ b∈ex,b∈ex'):Un fs' ex' H H1 h h1 :=
 ⟨λb ob q n hb he=>u.keep b ob q n (λz=>hb (hs b z)) λz=>he (hx b z),λ_ _ q n _ he=>u.any q n λz=>he (hx _ z),λb ob q n he=>u.free b ob q n λz=>he (hx b z),λb ob q he=>u.there b ob q λz=>he (hx b z),u.tups,u.frzs,u.tbls⟩
end
def trk(h:æ)(H:Hp):List Addr:=(î h.objs.size).filter λa=>(H a).isSome
def D61(h:æ)(H:Hp):Heap:=hideAll h (trk h H)
theorem o51(h:æ)(H:Hp):(D61 h H).objs.size=h.objs.size:=PySem.W.hideAll_size _ _
theorem I60{h:æ}{H:Hp}{b:Æ}{o:Obj}(e:h.get? b=some o)(n:H b=none):(D61 h H).get? b=some o :=
 hideAll_get _ e λhm=>by
  have q:(H b).isSome=true:=(Ù8.mp hm).2;rw[n] at q;simp at q
theorem S61{h:æ}{H:Hp}{b:Æ}{o:Obj}(e:(D61 h H).get? b=some o):h.get? b=some o/\H b=none:=by
 have e':h.get? b=some o:=of_hideAll (trk h H) e;refine⟨e',?_⟩;cases q:H b with
 |none=>rfl
 |some x =>
  have hm:b∈trk h H:=Ù8.mpr ⟨Å7.mpr (ß e'),by simp[q]⟩
  have z:(D61 h H).get? b=none:=PySem.W.hideAll_none (trk h H) hm;rw[z] at e;cases e
structure Mod(K:PySem.W.Frag)(mg:Str->Option Value)(base:Heap):Prop where
 kin:K.In base
 glob:base.Ns mainGlobals mg
 blt:∃ mb,base.Ns builtinsNs mb/\∀ x:Str,x≠"__name__"->mb x=bootBuiltins x
 nolimit:base.NoLimit
structure Cx where
 prog:Program
 w:World
 K:PySem.W.Frag
 mg:Str->Option Value
 base:Heap
 A:Around
 N:List Str
 s₀:Shared
 H₀:Hp
 env:Env
 outer:List Env
 stack:List Env
 ex:List Addr
 fn:Str->Bool
 calm:Bool
 pn:List (Addr × Obj)
 xe:Value->Shared->Prop
def frs(l:List Env):List Addr:=l.filterMap (·.frame)
abbrev Cx.fs(X:Cx):List Addr:=frs X.outer
def Vis(sc:ú)(x:Str):Prop:=sc.names.lookup x=some .local∨sc.names.lookup x=some .cell∨sc.names.lookup x=some .free
def Loc(sc:ú)(x:Str):Prop:=sc.names.lookup x=some .local∨sc.names.lookup x=some .cell
def Look(env:Env)(h:æ)(m:Str->Option Ã)(x:Str)(u:Ã):Prop :=
 (env.kindOf x=some .local/\m x=some u)∨((env.kindOf x=some .cell∨env.kindOf x=some .free)/\∃ c,env.cells.lookup x=some c/\h.IsCell c (some u))
structure Cx.Ok(X:Cx):Prop where
 mod:Mod X.K X.mg X.base
 kind:X.env.scope.kind=.function
 glob:X.env.globals=mainGlobals
 blt:X.env.builtins=builtinsNs
 above:X.s₀.heap.objs.size<=X.env.locals
 inj:∀ x y c,X.env.cells.lookup x=some c->X.env.cells.lookup y=some c->x=y
 has:∀ x,(X.env.kindOf x=some .cell∨X.env.kindOf x=some .free)->∃ c,X.env.cells.lookup x=some c
 cab:∀ x c,X.fn x=true->X.env.cells.lookup x=some c->X.s₀.heap.objs.size<=c
 hd:X.calm=true->X.A.handled=none
 frames:X.A.frames=some X.stack
 stk:X.stack=X.outer∨(X.stack=X.env::X.outer/\X.env.frame=some X.env.locals)
 exf:∀ b∈X.ex,b≠X.env.locals/\∀ x c,X.env.cells.lookup x=some c->c≠b
 bs:∀ b o,X.base.get? b=some o->X.s₀.heap.get? b=some o/\X.H₀ b=none
 bsz:X.base.objs.size<=X.s₀.heap.objs.size
 noex:∀ b o,X.base.get? b=some o->b ∉ X.ex
 exfs:∀ b∈X.ex,b ∉ X.fs
 k51:X.s₀.heap.FunFrames X.base X.outer
 frf:∀ b∈X.fs,X.H₀ b=none
structure Inv(X:Cx)(pins:List (Addr × Obj))(σ:List (Option V))(H:Hp)(s:Shared):Prop where
 ok:X.Ok
 os:s.os=X.s₀.os
 bare:AllBare s.gens
 base:Un X.fs X.ex X.H₀ H X.s₀.heap s.heap
 loc:∃ m,s.heap.Ns X.env.locals m/\∀ (i:Nat) (x:Str) (v:V),X.N[i]?=some x->σ[i]?=some (some v)->Vis X.env.scope x->∃ u,RelV v u/\Look X.env s.heap m x u
 cell:∀ x c,X.env.cells.lookup x=some c->∃ v,s.heap.IsCell c v
 free:H X.env.locals=none
 freeC:∀ x c,X.env.cells.lookup x=some c->H c=none
 pin:∀ p∈X.pn++pins,s.heap.get? p.1=some p.2/\H p.1=none/\p.1≠X.env.locals/\p.1 ∉ X.fs/\∀ v,p.2.data≠.cell v
 hok:HOk X.prog X.w H s.heap
 len:σ.length=X.N.length
section
variable {X:Cx}{pins:List (Æ × Obj)}{σ:List (Option V)}{H H':Hp}{s:Å}{h':æ}
theorem Cx.Ok.J82(ok:X.Ok){b:Æ}{o:Obj}(e:X.base.get? b=some o):b ∉ X.fs:=λhb=>by
 have:=(ok.k51.mem hb).1;rw[e] at this;cases this
theorem Inv.bs(I:Inv X pins σ H s):∀ b o,X.base.get? b=some o->s.heap.get? b=some o/\H b=none:=λb o e =>
 ⟨I.base.keep b o (I.ok.bs b o e).1 (I.ok.bs b o e).2 (I.ok.J82 e) (I.ok.noex b o e),I.base.free b o (I.ok.bs b o e).1 (I.ok.bs b o e).2 (I.ok.noex b o e)⟩
theorem Inv.bk(I:Inv X pins σ H s):∀ b o,X.base.get? b=some o->s.heap.get? b=some o:=λb o e=>(I.bs b o e).1
theorem Inv.mod(I:Inv X pins σ H s):Mod X.K X.mg X.base:=I.ok.mod
theorem Inv.kIn(I:Inv X pins σ H s):X.K.In s.heap:=I.ok.mod.kin.keeps I.bk
theorem Inv.lt(I:Inv X pins σ H s):X.env.locals < s.heap.objs.size:=let ⟨_,hn,_⟩:=I.loc;hn.lt
theorem Inv.sz(I:Inv X pins σ H s):X.s₀.heap.objs.size<=s.heap.objs.size:=Þ I.ok.above (Í2 I.lt)
theorem Inv.J92(I:Inv X pins σ H s){a:Æ}(h:s.heap.objs.size<=a):a ∉ X.fs:=λhb=>by
 obtain⟨_,o,ho,_⟩:=I.ok.k51.mem hb;exact absurd (Ù (ß ho) (Þ I.sz h)) (À3 _)
theorem Inv.cne(I:Inv X pins σ H s):∀ x c,X.env.cells.lookup x=some c->c≠X.env.locals:=λx c e z=>by
 obtain⟨v,o,ho,hd⟩:=I.cell x c e;obtain⟨m,⟨o',es,ep,ho',hd',_⟩,_⟩:=I.loc;rw[z,ho'] at ho;cases ho;rw[hd'] at hd;cases hd
theorem Inv.k51(I:Inv X pins σ H s):s.heap.FunFrames X.base X.outer:=by
 have all:∀ (l:List Env),(∀ b∈frs l,b∈X.fs)->X.s₀.heap.FunFrames X.base l->s.heap.FunFrames X.base l:=by
  intro l
  induction l with
  |nil=>intro _ _;trivial
  |cons env r ih =>
   intro hs hl;obtain⟨hk,⟨L,o,hf,hn,ho,hd⟩,hr⟩:=hl;have hL:L∈X.fs:=hs L (by unfold frs;rw[À1,hf];exact Ê)
   obtain⟨sl,e⟩:=I.base.slot L o ho (I.ok.frf L hL) hL λz=>I.ok.exfs L z hL;exact⟨hk,⟨L,_,hf,hn,e,hd⟩,ih (λb hb=>hs b (by unfold frs;rw[À1,hf];exact É _ hb)) hr⟩
 exact all X.outer (λ_ hb=>hb) I.ok.k51
theorem Inv.stack(I:Inv X pins σ H s):s.heap.FunFrames X.base X.stack:=by
 rcases I.ok.stk with e | ⟨e,hf⟩
 ·rw[e];exact I.k51
 ·rw[e];obtain⟨m,hn,_⟩:=I.loc;refine .cons (by rw[I.ok.kind];decide) hf hn ?_ I.k51
  exact æ.get?_none_of_le (Þ I.ok.bsz I.ok.above)
theorem Inv.o61(I:Inv X pins σ H s):∀ b∈frs X.stack,b∈X.env.locals::X.fs:=λb hb=>by
 rcases I.ok.stk with e | ⟨e,hf⟩
 ·rw[e] at hb;exact É _ hb
 ·rw[e] at hb;unfold frs at hb;rw[À1,hf] at hb;exact hb
theorem Inv.x10(I:Inv X pins σ H s):∀ b∈frs X.stack,H b=none:=λb hb=>by
 rcases ô.mp (I.o61 b hb) with e | hb
 ·rw[e];exact I.free
 ·obtain⟨_,o,ho,_⟩:=I.ok.k51.mem hb;exact I.base.free b o ho (I.ok.frf b hb) λz=>I.ok.exfs b z hb
theorem Inv.step{g':Array GenState}{t':Nat}{d':Drawn}{ch:List Æ}(I:Inv X pins σ H s)
  (hch:∀ b∈ch,(b∈X.ex∨X.s₀.heap.objs.size<=b)/\b≠X.env.locals/\(∀ x c,X.env.cells.lookup x=some c->c≠b)/\∀ p∈X.pn++pins,p.1≠b)
  (keep:∀ b o,b≠X.env.locals->b ∉ X.fs->b ∉ ch->s.heap.get? b=some o->H b=none->h'.get? b=some o)
  (slot:∀ b o,b≠X.env.locals->b∈X.fs->b ∉ ch->s.heap.get? b=some o->H b=none->∃ sl,h'.get? b=some { o with slots:=sl }) (free:∀ b o,b ∉ ch->s.heap.get? b=some o->H b=none->H' b=none)
  (there:∀ b o,b ∉ ch->s.heap.get? b=some o->∃ o',h'.get? b=some o')
  (tups:∀ b xs,H b=some (.tup xs)->H' b=some (.tup xs)) (frzs:∀ b o u,H b=some (.frz o u)->H' b=some (.frz o u)) (tbls:∀ b ps,H b=some (.tbl ps)->∃ more,H' b=some (.tbl (ps++more)))
  (ns:∀ m,s.heap.Ns X.env.locals m->h'.Ns X.env.locals m) (hok:HOk X.prog X.w H' h') (hg:Ñ6 g') :
  Inv X pins σ H' { s with heap:=h',gens:=g',drawn:=d',toks:=t' }:=by
 have neL:∀ b o,X.s₀.heap.get? b=some o->b≠X.env.locals:=λb o e=>å (Ù (ß e) I.ok.above);have neC:∀ b o,X.s₀.heap.get? b=some o->b ∉ X.ex->b ∉ ch:=λb o e hx hb=>by
  rcases (hch b hb).1 with z | z
  ·exact hx z
  ·exact absurd (Ù (ß e) z) (À3 _)
 have cellK:∀ x c,X.env.cells.lookup x=some c->∀ v,s.heap.IsCell c v->h'.IsCell c v:=λx c e v ⟨o,ho,hd⟩=>by
  have nch:c ∉ ch:=λz=>(hch c z).2.2.1 x c e rfl;by_cases hc:c∈X.fs
  ·obtain⟨sl,q⟩:=slot c o (I.cne x c e) hc nch ho (I.freeC x c e);exact⟨_,q,hd⟩
  ·exact⟨o,keep c o (I.cne x c e) hc nch ho (I.freeC x c e),hd⟩
 refine⟨I.ok,I.os,hg,⟨λb o e n hb hx=>?_,λb o e n hb hx=>?_,λb o e n hx=>?_,λb o e hx=>?_,λb xs e=>tups b xs (I.base.tups b xs e),λb o xs e=>frzs b o xs (I.base.frzs b o xs e),λb ps e=>?_⟩,?_,λx c e=>?_,?_,λx c e=>?_,λp hp=>?_,hok,I.len⟩
 ·exact keep b o (neL b o e) hb (neC b o e hx) (I.base.keep b o e n hb hx) (I.base.free b o e n hx)
 ·obtain⟨sl,e1⟩:=I.base.slot b o e n hb hx;obtain⟨sl',e2⟩:=slot b _ (neL b o e) hb (neC b o e hx) e1 (I.base.free b o e n hx);exact⟨sl',e2⟩
 ·obtain⟨o',e1⟩:=I.base.there b o e hx;exact free b o' (neC b o e hx) e1 (I.base.free b o e n hx)
 ·obtain⟨o',e1⟩:=I.base.there b o e hx;exact there b o' (neC b o e hx) e1
 ·obtain⟨m1,e1⟩:=I.base.tbls b ps e;obtain⟨m2,e2⟩:=tbls b _ e1;exact⟨m1++m2,by rw[e2,Array.append_assoc]⟩
 ·obtain⟨m,hn,hl⟩:=I.loc;refine⟨m,ns m hn,λi x v e1 e2 e3=>?_⟩;obtain⟨u,r,l⟩:=hl i x v e1 e2 e3;refine⟨u,r,?_⟩;rcases l with l | ⟨k,c,e,z⟩
  ·exact .inl l
  ·exact .inr ⟨k,c,e,cellK x c e _ z⟩
 ·obtain⟨v,z⟩:=I.cell x c e;exact⟨v,cellK x c e v z⟩
 ·obtain⟨m,⟨o,_,_,ho,_⟩,_⟩:=I.loc;exact free _ o (λz=>(hch _ z).2.1 rfl) ho I.free
 ·obtain⟨v,o,ho,hd⟩:=I.cell x c e;exact free c o (λz=>(hch c z).2.2.1 x c e rfl) ho (I.freeC x c e)
 ·obtain⟨e,n,ne,nf,d⟩:=I.pin p hp;have nch:p.1 ∉ ch:=λz=>(hch p.1 z).2.2.2 p hp rfl;exact⟨keep p.1 p.2 ne nf nch e n,free p.1 p.2 nch e n,ne,nf,d⟩
theorem Inv.un{t':Nat}(I:Inv X pins σ H s)(u:Un X.fs [] H H' s.heap h')(hok:HOk X.prog X.w H' h'):Inv X pins σ H' { s with heap:=h',toks:=t' }:=by
 obtain⟨m,⟨o,es,ep,ho,r⟩,_⟩:=id I.loc;obtain⟨sl,hL⟩:=u.any ho I.free (by simp)
 exact I.step (g':=s.gens) (d':=s.drawn) (ch:=[]) (λ_ z=>nomatch z) (λb o _ hb _ e n=>u.keep b o e n hb (by simp)) (λb o _ hb _ e n=>u.slot b o e n hb (by simp)) (λb o _ e n=>u.free b o e n (by simp)) (λb o _ e=>u.there b o e (by simp)) u.tups u.frzs u.tbls (λm' hm=>by
  obtain⟨o',es',ep',ho',r'⟩:=hm;rw[ho] at ho';cases ho';exact⟨_,es',ep',hL,r'⟩) hok I.bare
theorem Inv.call{g':Array GenState}{t':Nat}{d':Drawn}{ch:List Æ}(I:Inv X pins σ H s)(u:Un (frs X.stack) ch H H' s.heap h')(hok:HOk X.prog X.w H' h')(hg:Ñ6 g')
  (hch:∀ b∈ch,(b∈X.ex∨X.s₀.heap.objs.size<=b)/\b≠X.env.locals/\(∀ x c,X.env.cells.lookup x=some c->c≠b)/\∀ p∈X.pn++pins,p.1≠b) :
  Inv X pins σ H' { s with heap:=h',gens:=g',drawn:=d',toks:=t' }:=by
 obtain⟨m,⟨o,es,ep,ho,r⟩,_⟩:=id I.loc;obtain⟨sl,hL⟩:=u.any ho I.free λz=>(hch _ z).2.1 rfl;exact I.step (ch:=ch) hch (λb o hL hb hc e n=>u.keep b o e n (λz=>(ô.mp (I.o61 b z)).elim hL hb) hc) (λb o _ _ hc e n=>u.any e n hc) (λb o hc e n=>u.free b o e n hc) (λb o hc e=>u.there b o e hc) u.tups u.frzs u.tbls (λm' hm=>by
  obtain⟨o',es',ep',ho',r'⟩:=hm;rw[ho] at ho';cases ho';exact⟨_,es',ep',hL,r'⟩) hok hg
theorem Inv.turned{t':Nat}{it:Æ}(I:Inv X pins σ H s)(k:∀ b o,b≠it->s.heap.get? b=some o->h'.get? b=some o)(hn:H it=none)(hL:it≠X.env.locals)
  (h1:it∈X.ex∨X.s₀.heap.objs.size<=it) (h2:∀ x c,X.env.cells.lookup x=some c->c≠it) (h3:∀ p∈X.pn++pins,p.1≠it):Inv X pins σ H { s with heap:=h',toks:=t' }:=by
 have nit:∀ b u,H b=some u->b≠it:=λb u e z=>by rw[z,hn] at e;cases e
 refine I.step (g':=s.gens) (d':=s.drawn) (ch:=[it]) (λb hb=>?_) (λb o _ _ hc e _=>k b o (λz=>hc (by simp[z])) e) (λb o _ _ hc e _=>⟨o.slots,k b o (λz=>hc (by simp[z])) e⟩) (λ_ _ _ _ n=>n)
  (λb o hc e=>⟨o,k b o (λz=>hc (by simp[z])) e⟩) (λ_ _ e=>e) (λ_ _ _ e=>e) (λb ps e=>⟨#[],by rw[e];simp⟩) (λm hm=>?_) (λb u e=>?_) I.bare
 ·have e:b=it:=by simpa using hb
  subst e;exact⟨h1,hL,h2,h3⟩
 ·obtain⟨o,es,ep,ho,r⟩:=hm;exact⟨o,es,ep,k _ o (Â2 hL) ho,r⟩
 ·refine(I.hok b u e).k41 (λc v hc q=>k c v ?_ q) (λ_ q=>q) λ_ _ q=>q;rcases hc with z | z
  ·rw[z];exact nit b u e
  ·exact nit c _ z
theorem Inv.tok(I:Inv X pins σ H s)(t:Nat):Inv X pins σ H { s with toks:=t }:=I.un (h':=s.heap) (t':=t) Un.refl I.hok
theorem Inv.kept{t':Nat}(I:Inv X pins σ H s)(k:∀ b u,s.heap.get? b=some u->h'.get? b=some u):Inv X pins σ H { s with heap:=h',toks:=t' }:=I.un (Un.kept k) (I.hok.kept k)
theorem Inv.laid{a:Æ}{o:HO}{t':Nat}(I:Inv X pins σ H s)(k:∀ b u,s.heap.get? b=some u->h'.get? b=some u)(hp:s.heap.objs.size<=a)(new:h50 X.prog X.w (upd H a o) h' a o) :
  Inv X pins σ (upd H a o) { s with heap:=h',toks:=t' }:=I.un (Un.laid k hp (I.hok.fresh hp)) (I.hok.laid k hp new)
theorem Inv.write{x e:Æ}{o:HO}{t':Nat}(I:Inv X pins σ H s)(mu:Mut (H x))(he:e=x∨H e=some (.own x))(k:∀ b u,b≠e->s.heap.get? b=some u->h'.get? b=some u)(heo:∃ u,h'.get? e=some u)
  (new:h50 X.prog X.w (upd H x o) h' x o):Inv X pins σ (upd H x o) { s with heap:=h',toks:=t' }:=I.un (Un.write mu he k heo) (I.hok.write mu he k heo new)
theorem Inv.C50{pins':List (Æ × Obj)}(I:Inv X pins σ H s)(h:∀ p∈pins',s.heap.get? p.1=some p.2/\H p.1=none/\p.1≠X.env.locals/\p.1 ∉ X.fs/\∀ v,p.2.data≠.cell v):Inv X pins' σ H s :=
 ⟨I.ok,I.os,I.bare,I.base,I.loc,I.cell,I.free,I.freeC,λp hp=>(Â3.mp hp).elim (λz=>I.pin p (Å0 _ z)) (h p),I.hok,I.len⟩
theorem d61{N:List Str}(hN:N.Nodup){i j:Nat}{x:Str}(a:N[i]?=some x)(b:N[j]?=some x):i=j:=by
 obtain⟨h1,e1⟩:=Ú.mp a;obtain⟨h2,e2⟩:=Ú.mp b;exact(List.getElem_inj hN).mp (e1.trans e2.symm)
theorem C60{M:Model}{A:ö}{E:Ã->Å->Prop}{i:Nat}{x:Str}{v:V}{u:Ã}{Q:Unit->Å->Prop}(I:Inv X pins σ H s)(hN:X.N.Nodup)(hi:X.N[i]?=some x)(hx:Loc X.env.scope x)(r:RelV v u)
  (h:∀ s',Inv X pins (σ.set i (some v)) H s'->(∃ a,Ö4 a s.heap s'.heap/\(a=X.env.locals∨X.env.cells.lookup x=some a))->Q () s') (hf:X.fn x=true∨X.env.scope.names.lookup x=some .local:=by first | exact .inl rfl | exact .inr rfl | assumption):Ñ M A (storeName X.env x u) Q E s:=by
 obtain⟨m,hn,hl⟩:=id I.loc;have hcls:(X.env.scope.kind == .class || (X.env.scope.kind == .module&&X.env.locals != X.env.globals))=false:=by rw[I.ok.kind];rfl
 have hiσ:i < σ.length:=by rw[I.len];exact(Ú.mp hi).1
 have cne:=I.cne;have tracked:∀ {a:Æ}{h':æ},(∃ o,s.heap.get? a=some o/\H a=none)->Ö4 a s.heap h'->HOk X.prog X.w H h':=λ{a h'} ha hs b ob e=>by
  obtain⟨_,_,hfree⟩:=ha;refine(I.hok b ob e).k41 (λc w' hc q=>(hs.2 c ?_).trans q) (λ_ q=>q) λ_ _ q=>q;rintro rfl;rcases hc with rfl | hc
  ·rw[hfree] at e;cases e
  ·rw[hfree] at hc;cases hc
 rcases hx with hk | hk
 ·refine wpAny_storeName_local hk hn (λh' hn' hs=>?_) hcls;obtain⟨oL,_,_,hoL,_⟩:=id hn;refine h _ ⟨I.ok,I.os,I.bare,⟨λb o e n hb hx=>?_,λb o e n hb hx=>?_,I.base.free,λb o e hx=>?_,I.base.tups,I.base.frzs,I.base.tbls⟩,⟨_,hn',λj y v' e1 e2 e3=>?_⟩,λy c e=>?_,I.free,I.freeC,λp hp=>?_,tracked ⟨oL,hoL,I.free⟩ hs,by simpa using I.len⟩ ⟨_,hs,.inl rfl⟩
  ·exact(hs.2 b (å (Ù (ß e) I.ok.above))).trans (I.base.keep b o e n hb hx)
  ·obtain⟨sl,e1⟩:=I.base.slot b o e n hb hx;exact⟨sl,(hs.2 b (å (Ù (ß e) I.ok.above))).trans e1⟩
  ·obtain⟨o',e1⟩:=I.base.there b o e hx;exact⟨o',(hs.2 b (å (Ù (ß e) I.ok.above))).trans e1⟩
  ·by_cases hj:j=i
   ·subst hj;rw[hi] at e1;cases e1;rw[ë hiσ] at e2;cases e2;exact⟨u,r,.inl ⟨hk,by simp⟩⟩
   ·rw[ã (Â2 hj)] at e2;obtain⟨u',r',q⟩:=hl j y v' e1 e2 e3;refine⟨u',r',?_⟩;rcases q with ⟨k,e⟩ | ⟨k,c,e,z⟩
    ·refine .inl ⟨k,?_⟩;have:y≠x:=λe=>hj (d61 hN e1 (e ▸ hi));simp[this,e]
    ·exact .inr ⟨k,c,e,z.sameBut hs (cne y c e)⟩
  ·obtain⟨w',z⟩:=I.cell y c e;exact⟨w',z.sameBut hs (cne y c e)⟩
  ·obtain⟨e,n,ne,nf,d⟩:=I.pin p hp;exact⟨(hs.2 p.1 ne).trans e,n,ne,nf,d⟩
 ·have hfn:X.fn x=true:=by
   rcases hf with z | z
   ·exact z
   ·rw[z] at hk;cases hk
  obtain⟨c,hc⟩:=I.ok.has x (.inl hk);obtain⟨w',z⟩:=I.cell x c hc;refine wpAny_storeName_cell I.ok.kind hk hc z (λh' hc' hs=>?_);obtain⟨oc,hoc,hocd⟩:=id z;refine h { s with heap:=h' } ⟨I.ok,I.os,I.bare,⟨λb o e n hb hx=>?_,λb o e n hb hx=>?_,I.base.free,λb o e hx=>?_,I.base.tups,I.base.frzs,I.base.tbls⟩,⟨m,hn.sameBut hs (Â2 (cne x c hc)),λj y v' e1 e2 e3=>?_⟩,λy c' e=>?_,I.free,I.freeC,λp hp=>?_,tracked ⟨oc,hoc,I.freeC x c hc⟩ hs,by simpa using I.len⟩ ⟨c,hs,.inr hc⟩
  ·exact(hs.2 b (å (Ù (ß e) (I.ok.cab x c hfn hc)))).trans (I.base.keep b o e n hb hx)
  ·obtain⟨sl,e1⟩:=I.base.slot b o e n hb hx;exact⟨sl,(hs.2 b (å (Ù (ß e) (I.ok.cab x c hfn hc)))).trans e1⟩
  ·obtain⟨o',e1⟩:=I.base.there b o e hx;exact⟨o',(hs.2 b (å (Ù (ß e) (I.ok.cab x c hfn hc)))).trans e1⟩
  ·by_cases hj:j=i
   ·subst hj;rw[hi] at e1;cases e1;rw[ë hiσ] at e2;cases e2;exact⟨u,r,.inr ⟨.inl hk,c,hc,hc'⟩⟩
   ·rw[ã (Â2 hj)] at e2;obtain⟨u',r',q⟩:=hl j y v' e1 e2 e3;refine⟨u',r',?_⟩;rcases q with q | ⟨k,c',e,z'⟩
    ·exact .inl q
    ·refine .inr ⟨k,c',e,z'.sameBut hs ?_⟩;rintro rfl;exact hj (d61 hN e1 (I.ok.inj _ _ _ e hc ▸ hi))
  ·by_cases hcc:c'=c
   ·subst hcc;exact⟨_,hc'⟩
   ·obtain⟨w2,z2⟩:=I.cell y c' e;exact⟨w2,z2.sameBut hs hcc⟩
  ·obtain⟨e,n,ne,nf,d⟩:=I.pin p hp;refine⟨(hs.2 p.1 ?_).trans e,n,ne,nf,d⟩;intro q;rw[q,hoc] at e;have q':oc=p.2:=À9 e;exact d w' (by rw[← q'];exact hocd)
theorem u20{M:Model}{A:ö}{E:Ã->Å->Prop}{i:Nat}{x:Str}{v:V}{u:Ã}{Q:Unit->Å->Prop}(I:Inv X pins σ H s)(hN:X.N.Nodup)(hi:X.N[i]?=some x)(hx:Loc X.env.scope x)(r:RelV v u)
  (h:∀ s',Inv X pins (σ.set i (some v)) H s'->Q () s') (hf:X.fn x=true∨X.env.scope.names.lookup x=some .local:=by first | exact .inl rfl | exact .inr rfl | assumption):Ñ M A (storeName X.env x u) Q E s :=
 C60 I hN hi hx r (λs' I' _=>h s' I') hf
theorem Inv.f82{s':Å}{ch:List Æ}(I:Inv X pins σ H s)(ho:s'.os=s.os)(u:Un (frs X.stack) ch H H' s.heap s'.heap)(hok:HOk X.prog X.w H' s'.heap)(hg:Ñ6 s'.gens)
  (hch:∀ b∈ch,(b∈X.ex∨X.s₀.heap.objs.size<=b)/\b≠X.env.locals/\(∀ x c,X.env.cells.lookup x=some c->c≠b)/\∀ p∈X.pn++pins,p.1≠b):Inv X pins σ H' s':=by
 obtain⟨h',g',d',t',o'⟩:=s';have e:o'=s.os:=ho;subst e;exact I.call (g':=g') (t':=t') (d':=d') u hok hg hch
end
abbrev XK:=Ã->Option Æ->Hp->Prop
abbrev St:=List (Option V)
abbrev VK:=V->Hp->Prop
abbrev TE:=St->Hp->VK->Prop
abbrev TT:=St->Hp->(Bool->Hp->Prop)->Prop
abbrev TA:=St->Hp->(List V->Hp->Prop)->Prop
structure Ends where
 nx:St->Hp->Prop
 rt:VK
 bk:St->Hp->Prop:=λ_ _=>False
 ct:St->Hp->Prop:=λ_ _=>False
abbrev TS:=Ends->St->Hp->Prop
def EP(X:Cx)(pins:List (Æ × Obj))(σ:St)(Q:VK)(u:Ã)(s':Å):Prop:=∃ v H',Inv X pins σ H' s'/\RelV v u/\Q v H'
def TP(X:Cx)(pins:List (Æ × Obj))(σ:St)(Q:Bool->Hp->Prop)(b:Bool)(s':Å):Prop:=∃ H',Inv X pins σ H' s'/\Q b H'
def AP(X:Cx)(pins:List (Æ × Obj))(σ:St)(Q:List V->Hp->Prop)(us:List Ã)(s':Å):Prop:=∃ vs H',Inv X pins σ H' s'/\Vals vs us/\Q vs H'
def SP(X:Cx)(pins:List (Æ × Obj))(D:Ends)(f:Flow)(s':Å):Prop :=
 match f with
 |.next=>∃ σ' H',Inv X pins σ' H' s'/\D.nx σ' H'
 |.brk=>∃ σ' H',Inv X pins σ' H' s'/\D.bk σ' H'|.cont=>∃ σ' H',Inv X pins σ' H' s'/\D.ct σ' H'|.ret u=>∃ v σ' H',Inv X pins σ' H' s'/\RelV v u/\D.rt v H'
def PE(X:Cx)(e:Ï)(t:TE):Prop :=
 ∀ (pins:List (Æ × Obj)) (s:Å) (σ:St) (H:Hp) (Q:VK),Inv X pins σ H s->t σ H Q->Ñ (Ö X.prog X.w) X.A (eval e X.env) (EP X pins σ Q) X.xe s
def PT(X:Cx)(e:Ï)(t:TT):Prop :=
 ∀ (pins:List (Æ × Obj)) (s:Å) (σ:St) (H:Hp) (Q:Bool->Hp->Prop),Inv X pins σ H s->t σ H Q->Ñ (Ö X.prog X.w) X.A (isTrue e X.env (eval e X.env)) (TP X pins σ Q) X.xe s
def PW(X:Cx)(e:Ï)(t:TT):Prop :=
 ∀ (whole:Sem Ã) (pins:List (Æ × Obj)) (s:Å) (σ:St) (H:Hp) (Q:Bool->Hp->Prop),Inv X pins σ H s->t σ H Q->Ñ (Ö X.prog X.w) X.A (isTrue e X.env whole) (TP X pins σ Q) X.xe s
theorem PW.pt{X:Cx}{e:Ï}{t:TT}(h:PW X e t):PT X e t:=h _
def PA(X:Cx)(es:List Ï)(t:TA):Prop :=
 ∀ (pos:Pos) (pins:List (Æ × Obj)) (s:Å) (σ:St) (H:Hp) (Q:List V->Hp->Prop),Inv X pins σ H s->t σ H Q->Ñ (Ö X.prog X.w) X.A (spliced (Ñ9 pos (ó es X.env))) (AP X pins σ Q) X.xe s
def PS(X:Cx)(st:Ä4)(t:TS):Prop :=
 ∀ (pins:List (Æ × Obj)) (s:Å) (σ:St) (H:Hp) (D:Ends),Inv X pins σ H s->t D σ H->Ñ (Ö X.prog X.w) X.A (exec st X.env) (SP X pins D) X.xe s
def PSs(X:Cx)(st:List Ä4)(t:TS):Prop :=
 ∀ (pins:List (Æ × Obj)) (s:Å) (σ:St) (H:Hp) (D:Ends),Inv X pins σ H s->t D σ H->Ñ (Ö X.prog X.w) X.A (execs st X.env) (SP X pins D) X.xe s
theorem thn{α:Type}{t:Sem α}{Q Q':α->Å->Prop}{M:Model}{A:ö}{E:Ã->Å->Prop}{s:Å}(h:Ñ M A t Q E s)(hQ:∀ a s,Q a s->Q' a s):Ñ M A t Q' E s:=Â4 h hQ λ_ _ x=>x
section
variable {X:Cx}
def e42(i:Nat):TE:=λσ H Q=>∃ v,σ[i]?=some (some v)/\Q v H
def tC(v:V):TE:=λ_ H Q=>Q v H
theorem o00{i:Nat}{x:Str}{pos:Pos}(hN:X.N[i]?=some x)(hv:Vis X.env.scope x)(hd:(x == ("__debug__":Str))=false:=by decide)(hcd:(x == ("__classdict__":Str))=false:=by decide):PE X (.Name x pos) (e42 i):=by
 intro pins s σ H Q I h;obtain⟨v,e,h⟩:=h;obtain⟨m,hn,hl⟩:=I.loc;obtain⟨u,r,l⟩:=hl i x v hN e hv;have fin:EP X pins σ Q u s:=⟨v,H,I,r,h⟩;rcases l with ⟨hk,hm⟩ | ⟨hk,c,hc,hcell⟩
 ·exact Ï6 (Ì7 I.ok.kind hk hn hm fin) hd
 ·rcases hk with hk | hk
  ·exact Ï6 (Ö5 I.ok.kind hk hc hcell fin) hd
  ·exact Ï6 (wpAny_loadName_free I.ok.kind hk hc hcell fin hcd) hd
theorem d71{i j pos}:PE X (.Constant (.int i) j pos) (tC (.int i)):=λ_ _ _ H _ I h=>wpAny_Constant_int ⟨.int i,H,I.tok _,⟨_,rfl⟩,h⟩
theorem v52{b j pos}:PE X (.Constant (.bool b) j pos) (tC (.bl b)):=λ_ _ _ H _ I h=>Constant_bool ⟨.bl b,H,I,rfl,h⟩
theorem o71{j pos}:PE X (.Constant .none j pos) (tC .non):=λ_ _ _ H _ I h=>Constant_none ⟨.non,H,I,rfl,h⟩
theorem O11{x j pos}:PE X (.Constant (.str x) j pos) (tC (.str x)):=λ_ _ _ H _ I h=>Calls.Constant_str ⟨.str x,H,I.tok _,⟨_,rfl⟩,h⟩
def Gl(X:Cx)(x:Str):Prop:=X.env.kindOf x=some .globalImplicit
theorem I70{E:Ã->Å->Prop}{pins:List (Æ × Obj)}{s:Å}{σ:St}{H:Hp}{x:Str}{u:Ã}{pos:Pos}{Q:Ã->Å->Prop}(I:Inv X pins σ H s)(hg:Gl X x)(hm:X.mg x=some u)(h:Q u s)
  (hd:(x == ("__debug__":Str))=false:=by decide):Ñ (Ö X.prog X.w) X.A (eval (.Name x pos) X.env) Q E s :=
 Í4 I.ok.kind hg (Ü7 (by rw[I.ok.glob];exact I.mod.glob.keeps I.bk) hm h) hd
theorem u30{E:Ã->Å->Prop}{pins:List (Æ × Obj)}{s:Å}{σ:St}{H:Hp}{x:Str}{u:Ã}{pos:Pos}{Q:Ã->Å->Prop}(I:Inv X pins σ H s)(hg:Gl X x)(hm:X.mg x=none)(hv:è x=some u)(h:Q u s)
  (hn:x≠"__name__":=by decide) (hd:(x == ("__debug__":Str))=false:=by decide):Ñ (Ö X.prog X.w) X.A (eval (.Name x pos) X.env) Q E s:=by
 obtain⟨mb,h1,h2⟩:=I.mod.blt;exact Í4 I.ok.kind hg (Calls.loadGlobal_builtin (by rw[I.ok.glob];exact I.mod.glob.keeps I.bk) hm (by rw[I.ok.blt];exact h1.keeps I.bk) ((h2 x hn).trans hv) h) hd
theorem e00{x:Str}{v:V}{u:Ã}{pos:Pos}(hg:Gl X x)(hm:X.mg x=some u)(r:RelV v u)(hd:(x == ("__debug__":Str))=false:=by decide):PE X (.Name x pos) (tC v) :=
 λ_ _ _ H _ I h=>I70 I hg hm ⟨v,H,I,r,h⟩ hd
theorem I80{x:Str}{v:V}{u:Ã}{pos:Pos}(hg:Gl X x)(hm:X.mg x=none)(hv:è x=some u)(r:RelV v u)(hn:x≠"__name__":=by decide)(hd:(x == ("__debug__":Str))=false:=by decide):PE X (.Name x pos) (tC v) :=
 λ_ _ _ H _ I h=>u30 I hg hm hv ⟨v,H,I,r,h⟩ hn hd
variable {a b:Ï}{ta tb:TE}{pos:Pos}
def tB(t:TE):TT:=λσ H Q=>t σ H λx H1=>∃ c,x=.bl c/\Q c H1
theorem o81{e:Ï}{t:TE}(h:PE X e t)(he:∀ whole,isTrue e X.env whole=(do let v ← whole;standAt e.pos;Ú1 [v] (truthy v)):=by intro _;rfl):PT X e (tB t):=by
 intro pins s σ H Q I hw;refine isTrue_plain (thn (h pins s σ H _ I hw) λv s1 ⟨x,H1,I1,r1,q1⟩=>?_) (he _);obtain⟨d,rfl,q⟩:=q1;cases r1;exact Á3 ⟨H1,I1,q⟩
variable {tA tB':TT}{rest:List Ï}
def K02(t u:TT):TT:=λσ H Q=>t σ H λc H1=>if c=true then u σ H1 Q else Q false H1
def tOr(t u:TT):TT:=λσ H Q=>t σ H λc H1=>if c=true then Q true H1 else u σ H1 Q
def K12(t:TT):TT:=λσ H Q=>t σ H λc H1=>Q (!c) H1
theorem S71(ha:PT X a tA):PW X (.BoolOp .And [a] pos) tA:=by
 intro wh pins s σ H Q I h;refine isTrue_and (thn (ha pins s σ H Q I h) λc s1 e=>?_);cases c with
 |true=>exact isTrue_and_nil e|false=>exact e
theorem f92(ha:PT X a tA):PW X (.BoolOp .Or [a] pos) tA:=by
 intro wh pins s σ H Q I h;refine isTrue_or (thn (ha pins s σ H Q I h) λc s1 e=>?_);cases c with
 |false=>exact isTrue_or_nil e|true=>exact e
theorem g02(ha:PT X a tA)(hb:PW X (.BoolOp .And (b::rest) pos) tB'):PW X (.BoolOp .And (a::b::rest) pos) (K02 tA tB'):=by
 intro wh pins s σ H Q I h;refine isTrue_and (thn (ha pins s σ H _ I h) λc s1 ⟨H1,I1,q1⟩=>?_);cases c with
 |true=>exact hb wh pins s1 σ H1 Q I1 q1|false=>exact⟨H1,I1,q1⟩
theorem v62(ha:PT X a tA)(hb:PW X (.BoolOp .Or (b::rest) pos) tB'):PW X (.BoolOp .Or (a::b::rest) pos) (tOr tA tB'):=by
 intro wh pins s σ H Q I h;refine isTrue_or (thn (ha pins s σ H _ I h) λc s1 ⟨H1,I1,q1⟩=>?_);cases c with
 |true=>exact⟨H1,I1,q1⟩|false=>exact hb wh pins s1 σ H1 Q I1 q1
theorem O21(ha:PT X a tA):PT X (.UnaryOp .Not a pos) (K12 tA):=by
 intro pins s σ H Q I h;exact isTrue_not (ha pins s σ H (λc H1=>Q (!c) H1) I h)
def v72(ta tb:TE):TE:=λσ H Q=>ta σ H λx H1=>∃ c,x=.bl c/\if c=true then tb σ H1 Q else Q (.bl false) H1
def K22(ta tb:TE):TE:=λσ H Q=>ta σ H λx H1=>∃ c,x=.bl c/\if c=true then Q (.bl true) H1 else tb σ H1 Q
def v82(ta:TE):TE:=λσ H Q=>ta σ H λx H1=>∃ c,x=.bl c/\Q (.bl (!c)) H1
theorem g12{op}{t:TE}(h:PE X a t):PE X (.BoolOp op [a] pos) t:=λpins s σ H Q I hw=>BoolOp_one (h pins s σ H Q I hw)
theorem g22(ha:PE X a ta)(hb:PE X (.BoolOp .And (b::rest) pos) tb):PE X (.BoolOp .And (a::b::rest) pos) (v72 ta tb):=by
 intro pins s σ H Q I h;refine BoolOp_and (thn (ha pins s σ H _ I h) λv s1 ⟨x,H1,I1,r1,q1⟩=>?_);obtain⟨c,rfl,q1⟩:=q1;cases r1;refine Á3 ?_;cases c with
 |true=>exact hb pins s1 σ H1 Q I1 q1|false=>exact⟨.bl false,H1,I1,rfl,q1⟩
theorem v92(ha:PE X a ta)(hb:PE X (.BoolOp .Or (b::rest) pos) tb):PE X (.BoolOp .Or (a::b::rest) pos) (K22 ta tb):=by
 intro pins s σ H Q I h;refine BoolOp_or (thn (ha pins s σ H _ I h) λv s1 ⟨x,H1,I1,r1,q1⟩=>?_);obtain⟨c,rfl,q1⟩:=q1;cases r1;refine Á3 ?_;cases c with
 |false=>exact hb pins s1 σ H1 Q I1 q1|true=>exact⟨.bl true,H1,I1,rfl,q1⟩
theorem g32(ha:PE X a ta):PE X (.UnaryOp .Not a pos) (v82 ta):=by
 intro pins s σ H Q I h;refine UnaryOp_ (thn (ha pins s σ H _ I h) λv s1 ⟨x,H1,I1,r1,q1⟩=>?_);obtain⟨c,rfl,q1⟩:=q1;cases r1;exact not_of (Á3 ⟨.bl (!c),H1,I1,rfl,q1⟩)
def tIf(t:TT)(ta tb:TE):TE:=λσ H Q=>t σ H λc H1=>if c=true then ta σ H1 Q else tb σ H1 Q
theorem D71{c:Ï}(hc:PT X c tA)(ha:PE X a ta)(hb:PE X b tb):PE X (.IfExp c a b pos) (tIf tA ta tb):=by
 intro pins s σ H Q I h;refine wpAny_IfExp (thn (hc pins s σ H _ I h) λd s1 ⟨H1,I1,q1⟩=>?_);cases d with
 |true=>exact ha pins s1 σ H1 Q I1 q1|false=>exact hb pins s1 σ H1 Q I1 q1
end
def SqL(K:Â)(H:Hp)(a:Æ)(xs:List V):Prop :=
 Rd H a (.lst xs) ∨
  ∃ (o:Obj) (its:Array Ã) (n:Nat),K.lookup a=some o/\o.cls=.type "list"/\o.dict=none/\o.data=.seq its n/\its.size<=sizeLine/\Vals xs its.toList
def SqT(K:Â)(H:Hp)(a:Æ)(xs:List V):Prop :=
 Rd H a (.tup xs) ∨
  ∃ (o:Obj) (its:Array Ã) (n:Nat),K.lookup a=some o/\o.cls=.type "tuple"/\o.data=.seq its n/\its.size<=sizeLine/\Vals xs its.toList
def K32:Ã->Option V
 |.none=>some .non|.bool b=>some (.bl b)|.int i _=>some (.int i)|.str x _=>some (.str x)|.bytes b _=>some (.byt b)|.float b _=>some (.flt b)|.ref a=>some (.ref a)|.type n=>some (.ty n)|_=>none
theorem RelV.abs{x:V}{u:Ã}(r:RelV x u):K32 u=some x:=by
 cases x with
 |non=>cases r;rfl
 |bl _=>cases r;rfl
 |int _=>obtain⟨t,rfl⟩:=r;rfl
 |str _=>obtain⟨t,rfl⟩:=r;rfl
 |byt _=>obtain⟨t,rfl⟩:=r;rfl
 |flt _=>obtain⟨t,rfl⟩:=r;rfl
 |ref _=>cases r;rfl
 |ty _=>cases r;rfl
theorem RelV.inj{x y:V}{u:Ã}(r:RelV x u)(q:RelV y u):x=y:=À9 (r.abs.symm.trans q.abs)
theorem Vals.inj:∀ {xs ys:List V}{us:List Ã},Vals xs us->Vals ys us->xs=ys
 |_,_,_,.nil,.nil=>rfl|_,_,_,.cons r t,.cons r' t'=>by rw[r.inj r',Vals.inj t t']
section
variable {X:Cx}{pins:List (Æ × Obj)}{σ:St}{H:Hp}{s:Å}{a:Æ}{xs ys:List V}
theorem SqL.of{K:Â}(h:H a=some (.lst xs)):SqL K H a xs:=.inl (.inl h)
theorem SqT.of{K:Â}(h:H a=some (.tup xs)):SqT K H a xs:=.inl (.inl h)
theorem Inv.list(I:Inv X pins σ H s)(h:SqL X.K H a xs):∃ its:List Ã,Vals xs its/\PlainL s.heap a its.toArray/\xs.length<=sizeLine:=by
 rcases h with h | ⟨o,its,n,hk,hc,hd,hs,hz,r⟩
 ·obtain⟨z,its,n,r,e⟩:=h.ok I.hok;exact⟨its,r,⟨_,n,e,rfl,rfl,rfl⟩,z⟩
 ·refine⟨its.toList,r,⟨o,n,I.kIn a o hk,hc,hd,by simpa using hs⟩,?_⟩
  have e:=r.length;simp only[È6] at e;omega
theorem Inv.tuple(I:Inv X pins σ H s)(h:SqT X.K H a xs):∃ its:List Ã,Vals xs its/\Í3 s.heap a its.toArray/\xs.length<=sizeLine:=by
 rcases h with h | ⟨o,its,n,hk,hc,hs,hz,r⟩
 ·obtain⟨z,its,r,p⟩:=h.ok I.hok;exact⟨its,r,p,z⟩
 ·refine⟨its.toList,r,⟨o,I.kIn a o hk,hc,n,by simpa using hs⟩,?_⟩
  have e:=r.length;simp only[È6] at e;omega
theorem Inv.d81(I:Inv X pins σ H s)(h:SqL X.K H a xs)(h':SqL X.K H a ys):xs=ys:=by
 obtain⟨its,r,⟨o,n,e,_,_,d⟩,_⟩:=I.list h;obtain⟨its',r',⟨o',n',e',_,_,d'⟩,_⟩:=I.list h';rw[e] at e';cases e';rw[d] at d';injection d' with d1 _;have:its=its':=by simpa using congrArg toList d1
 subst this;exact r.inj r'
theorem Inv.P00(I:Inv X pins σ H s)(h:SqT X.K H a xs)(h':SqT X.K H a ys):xs=ys:=by
 obtain⟨its,r,⟨o,e,_,n,d⟩,_⟩:=I.tuple h;obtain⟨its',r',⟨o',e',_,n',d'⟩,_⟩:=I.tuple h';rw[e] at e';cases e';rw[d] at d';injection d' with d1 _;have:its=its':=by simpa using congrArg toList d1
 subst this;exact r.inj r'
end
abbrev Cx.D31(X:Cx)(E:Ã->Å->Prop):Cx:={ X with xe:=E }
abbrev Cx.nox(X:Cx):Cx:=X.D31 λ_ _=>False
theorem Cx.Ok.D31{X:Cx}(ok:X.Ok)(E:Ã->Å->Prop):(X.D31 E).Ok :=
 ⟨ok.mod,ok.kind,ok.glob,ok.blt,ok.above,ok.inj,ok.has,ok.cab,ok.hd,ok.frames,ok.stk,ok.exf,ok.bs,ok.bsz,ok.noex,ok.exfs,ok.k51,ok.frf⟩
theorem Cx.Ok.z10{X:Cx}{E:Ã->Å->Prop}(ok:(X.D31 E).Ok):X.Ok :=
 ⟨ok.mod,ok.kind,ok.glob,ok.blt,ok.above,ok.inj,ok.has,ok.cab,ok.hd,ok.frames,ok.stk,ok.exf,ok.bs,ok.bsz,ok.noex,ok.exfs,ok.k51,ok.frf⟩
section
variable {X:Cx}{pins:List (Æ × Obj)}{σ:St}{H:Hp}{s:Å}{E:Ã->Å->Prop}
theorem Inv.D31(I:Inv X pins σ H s)(E:Ã->Å->Prop):Inv (X.D31 E) pins σ H s:=⟨I.ok.D31 E,I.os,I.bare,I.base,I.loc,I.cell,I.free,I.freeC,I.pin,I.hok,I.len⟩
theorem Inv.z10(I:Inv (X.D31 E) pins σ H s):Inv X pins σ H s:=⟨I.ok.z10,I.os,I.bare,I.base,I.loc,I.cell,I.free,I.freeC,I.pin,I.hok,I.len⟩
theorem SP.z10{D:Ends}{f:Flow}{s':Å}(h:SP (X.D31 E) pins D f s'):SP X pins D f s':=by
 cases f with
 |next=>obtain⟨σ',H',I,q⟩:=h;exact⟨σ',H',I.z10,q⟩
 |brk=>obtain⟨σ',H',I,q⟩:=h;exact⟨σ',H',I.z10,q⟩
 |cont=>obtain⟨σ',H',I,q⟩:=h;exact⟨σ',H',I.z10,q⟩
 |ret u=>obtain⟨v,σ',H',I,r,q⟩:=h;exact⟨v,σ',H',I.z10,r,q⟩
theorem PSs.nox{st:List Ä4}{t:TS}(h:PSs X.nox st t):PSs X st t:=λpins s σ H D I hw =>
 Â4 (h pins s σ H D (I.D31 _) hw) (λ_ _ q=>q.z10) λ_ _ z=>ý z
end
section
variable {X:Cx}{st:Ä4}{rest:List Ä4}{t u:TS}{e:Ï}{te:TE}{pos:Pos}
def w02:TS:=λD σ H=>D.nx σ H
def K42(t u:TS):TS:=λD σ H=>t { D with nx:=u D } σ H
theorem o91:PSs X [] w02:=λ_ _ σ H _ I h=>Í6 ⟨σ,H,I,h⟩
theorem j30(h1:PS X st t)(h2:PSs X rest u):PSs X (st::rest) (K42 t u):=by
 intro pins s σ H D I h;refine Ò9 (thn (h1 pins s σ H { D with nx:=u D } I h) λf s1 q=>?_);cases f with
 |next =>
  obtain⟨σ',H',I',q⟩:=q;exact h2 pins s1 σ' H' D I' q
 |ret v=>exact q|brk=>exact q|cont=>exact q
theorem p01(h1:PS X st t):PSs X [st] t:=by
 intro pins s σ H D I h;refine Ò9 (thn (h1 pins s σ H D I h) λf s1 q=>?_);cases f with
 |next=>exact Í6 q
 |ret v=>exact q|brk=>exact q|cont=>exact q
theorem Inv.quiet{pins:List (Æ × Obj)}{σ:St}{H:Hp}{s:Å}(I:Inv X pins σ H s):interactive X.env=false:=by simp[interactive,I.ok.kind]
def g42(te:TE):TS:=λD σ H=>te σ H λ_ H1=>D.nx σ H1
theorem X50(he:PE X e te)(hs:Ó0 e none pos.line X.env=pure false:=by rfl):PS X (.Expr e pos) (g42 te):=by
 intro pins s σ H D I h;exact wpAny_Expr_any (thn (he pins s σ H _ I h) λv s1 ⟨x,H1,I1,r1,q1⟩=>⟨σ,H1,I1,q1⟩) I.quiet hs
def K52(te:TE):TS:=λD σ H=>te σ H D.rt
theorem d91(he:PE X e te):PS X (.Return (some e) pos) (K52 te):=by
 intro pins s σ H D I h;exact wpAny_Return_some (thn (he pins s σ H _ I h) λv s1 ⟨x,H1,I1,r1,q1⟩=>⟨x,σ,H1,I1,r1,q1⟩)
def w12:TS:=λD _ H=>D.rt .non H
theorem S81:PS X (.Return none pos) w12:=λ_ _ σ H _ I h=>wpAny_Return_none ⟨.non,σ,H,I,rfl,h⟩
def K62(c:TT)(t u:TS):TS:=λD σ H=>c σ H λb H1=>if b=true then t D σ H1 else u D σ H1
theorem g52{c:Ï}{a b:List Ä4}{tc:TT}(hc:PT X c tc)(ha:PSs X a t)(hb:PSs X b u):PS X (.If c a b pos) (K62 tc t u):=by
 intro pins s σ H D I h;refine wpAny_If (thn (hc pins s σ H _ I h) λd s1 ⟨H1,I1,q1⟩=>?_);cases d with
 |true=>exact ha pins s1 σ H1 D I1 q1|false=>exact hb pins s1 σ H1 D I1 q1
end
abbrev TG:=V->St->Hp->(St->Hp->Prop)->Prop
abbrev TGs:=List V->St->Hp->(St->Hp->Prop)->Prop
def PG(X:Cx)(target:Ï)(t:TG):Prop :=
 ∀ (pins:List (Æ × Obj)) (s:Å) (σ:St) (H:Hp) (v:V) (u:Ã) (Q:St->Hp->Prop),Inv X pins σ H s->RelV v u->t v σ H Q ->
  Ñ (Ö X.prog X.w) X.A (Õ5 target X.env u) (λ_ s'=>∃ σ' H',Inv X pins σ' H' s'/\Q σ' H') X.xe s
def PGs(X:Cx)(ts:List Ï)(t:TGs):Prop :=
 ∀ (pins:List (Æ × Obj)) (s:Å) (σ:St) (H:Hp) (vs:List V) (us:List Ã) (Q:St->Hp->Prop),Inv X pins σ H s->Vals vs us->t vs σ H Q ->
  Ñ (Ö X.prog X.w) X.A (assignInOrder ((È1 ts X.env).map (·.2)) us) (λ_ s'=>∃ σ' H',Inv X pins σ' H' s'/\Q σ' H') X.xe s
abbrev g62:=V->V->V->Hp->(Hp->Prop)->Prop
def w22(X:Cx)(t:g62):Prop :=
 ∀ (pins:List (Æ × Obj)) (s:Å) (σ:St) (H:Hp) (o i v:V) (ov iv u:Ã) (Q:Hp->Prop),Inv X pins σ H s->RelV o ov->RelV i iv->RelV v u->t o i v H Q ->
  Ñ (Ö X.prog X.w) X.A (setItem ov iv u) (λ_ s'=>∃ H',Inv X pins σ H' s'/\Q H') X.xe s
abbrev TIp:=V->V->Hp->VK->Prop
def PIp(X:Cx)(op:Í0)(t:TIp):Prop :=
 ∀ (pins:List (Æ × Obj)) (s:Å) (σ:St) (H:Hp) (x y:V) (v u:Ã) (Q:VK),Inv X pins σ H s->RelV x v->RelV y u->t x y H Q ->
  Ñ (Ö X.prog X.w) X.A (inplaceOp op v u) (EP X pins σ Q) X.xe s
section
variable {X:Cx}{pos:Pos}
def X60(i:Nat):TG:=λv σ H Q=>Q (σ.set i (some v)) H
theorem p11{i:Nat}{x:Str}(hN:X.N.Nodup)(hi:X.N[i]?=some x)(hx:Loc X.env.scope x)(hf:X.fn x=true∨X.env.scope.names.lookup x=some .local:=by first | exact .inl rfl | exact .inr rfl | assumption):PG X (.Name x pos) (X60 i):=by
 intro pins s σ H v u Q I r h;exact wpAny_assign_Name (u20 I hN hi hx r (λs' I'=>⟨_,H,I',h⟩) hf)
def G82:TGs:=λvs σ H Q=>vs=[]/\Q σ H
def g72(t:TG)(u:TGs):TGs:=λvs σ H Q=>∃ v r,vs=v::r/\t v σ H λσ' H'=>u r σ' H' Q
theorem S91:PGs X [] G82:=by
 intro pins s σ H vs us Q I r h;obtain⟨e,h⟩:=h;subst e;cases r;exact assignInOrder_nil ⟨σ,H,I,h⟩
theorem D81{e:Ï}{es:List Ï}{t:TG}{u:TGs}(h1:PG X e t)(h2:PGs X es u)
  (hs:(È1 (e::es) X.env).map (·.2)=Õ5 e X.env::(È1 es X.env).map (·.2):=by rfl):PGs X (e::es) (g72 t u):=by
 intro pins s σ H vs us Q I r h;obtain⟨v,vr,e1,h⟩:=h;subst e1;cases r with
 |cons r rr =>
  rw[hs];refine Ø8 (thn (h1 pins s σ H _ _ _ I r h) λ_ s1 ⟨σ1,H1,I1,q1⟩=>?_);exact h2 pins s1 σ1 H1 _ _ Q I1 rr q1
def G92(K:Â)(n:Nat)(t:TGs):TG:=λv σ H Q=>∃ a xs,v=.ref a/\SqT K H a xs/\xs.length=n/\t xs σ H Q
theorem g82{es:List Ï}{k:Nat}{t:TGs}{n:Nat}(hc:X.calm=true)(h:PGs X es t)
  (hn:(È1 es X.env).length=n:=by rfl) (hst:(È1 es X.env).findIdx? (·.1)=none:=by rfl):PG X (.Tuple es k pos) (G92 X.K n t):=by
 intro pins s σ H v u Q I r hw;obtain⟨a,xs,e1,hq,hl,hw⟩:=hw;subst e1;cases r;obtain⟨its,rv,ht,hz⟩:=I.tuple hq;refine assign_Tuple_tuple (I.ok.hd hc) ht (by simp[hn,← hl,rv.length]) hst λh' hx=>?_
 have I1:Inv X pins σ H { s with heap:=h' }:=I.kept (t':=s.toks) λb o e=>hx b o (å (ß e)) e;exact h pins _ σ H xs _ Q I1 (by simpa using rv) hw
def K72(to ti:TE)(t:g62):TG:=λv σ H Q=>to σ H λo H1=>ti σ H1 λi H2=>t o i v H2 λH3=>Q σ H3
theorem g92{o i:Ï}{to ti:TE}{t:g62}(ho:PE X o to)(hi:PE X i ti)(hs:w22 X t)
  (ha:∀ v,Õ5 (.Subscript o i pos) X.env v=(do
   let ov ← Ú1 [v] (eval o X.env)
   let iv ← Ú1 [v,ov] (eval i X.env)
   standAt pos
   Ú1 [v,ov,iv] (setItem ov iv v)
   release [v,ov,iv] []):=by intro _;rfl):PG X (.Subscript o i pos) (K72 to ti t):=by
 intro pins s σ H v u Q I r h;rw[ha];refine À (Ã7 (thn (ho pins s σ H _ I h) λov s1 ⟨x,H1,I1,r1,q1⟩=>?_));refine À (Ã7 (thn (hi pins s1 σ H1 _ I1 q1) λiv s2 ⟨y,H2,I2,r2,q2⟩=>?_));refine À (Ø1 (À (Ã7 (thn (hs pins s2 σ H2 x y v ov iv u _ I2 r1 r2 r q2) λ_ s3 ⟨H3,I3,q3⟩=>?_))));exact wpAny_release ⟨σ,H3,I3,q3⟩
def h02(te:TE)(g:TG):TS:=λD σ H=>te σ H λx H1=>g x σ H1 D.nx
theorem O31{tg e:Ï}{te:TE}{g:TG}(he:PE X e te)(hg:PG X tg g)(hs:swapsWithSole [tg] e pos.line X.env=pure false:=by rfl)(hw:Ã8 [tg] e X.env=pure none:=by rfl)
  (h1:(È1 [tg] X.env).map (·.2)=[Õ5 tg X.env]:=by rfl):PS X (.Assign [tg] e pos) (h02 te g):=by
 intro pins s σ H D I h;refine wpAny_Assign_stores (thn (he pins s σ H _ I h) λv s1 ⟨x,H1,I1,r1,q1⟩=>?_) hs hw;rw[h1];exact thn (hg pins s1 σ H1 x v _ I1 r1 q1) λ_ s2 q=>q
theorem z20{i:Nat}{x:Str}{e:Ï}{te:TE}{pos':Pos}(hN:X.N.Nodup)(hi:X.N[i]?=some x)(hx:Loc X.env.scope x)(he:PE X e te)(hs:Ó0 e (some (.Name x pos')) pos.line X.env=pure false:=by rfl)(hf:X.fn x=true∨X.env.scope.names.lookup x=some .local:=by first | exact .inl rfl | exact .inr rfl | assumption) :
  PS X (.Assign [.Name x pos'] e pos) (h02 te (X60 i)):=by
 intro pins s σ H D I h;refine wpAny_Assign_Name (thn (he pins s σ H _ I h) λv s1 ⟨y,H1,I1,r1,q1⟩=>?_) hs;exact u20 I1 hN hi hx r1 (λs2 I2=>⟨_,H1,I2,q1⟩) hf
def K82(i j:Nat)(ta:TA):TS:=λD σ H=>ta σ H λvs H1=>∃ v w,vs=[v,w]/\D.nx ((σ.set i (some v)).set j (some w)) H1
theorem h32{i j:Nat}{x y:Str}{a b:Ï}{ta:TA}{px py pt:Pos}{kt k2 pt2}(hc:X.calm=true)(hN:X.N.Nodup)(hi:X.N[i]?=some x)(hj:X.N[j]?=some y)(hij:i≠j)
  (hx:X.env.scope.names.lookup x=some .local) (hy:X.env.scope.names.lookup y=some .local) (ha:PA X [a,b] ta)
  (hw:Ã8 [.Tuple [.Name x px,.Name y py] kt pt] (.Tuple [a,b] k2 pt2) X.env=pure (some [x,y]))
  (hs:swapsWithSole [.Tuple [.Name x px,.Name y py] kt pt] (.Tuple [a,b] k2 pt2) pos.line X.env=pure false:=by rfl) :
  PS X (.Assign [.Tuple [.Name x px,.Name y py] kt pt] (.Tuple [a,b] k2 pt2) pos) (K82 i j ta):=by
 intro pins s σ H D I h;rw[exec_Assign_arm];refine À (Ø1 ?_);rw[hs];refine À (Ç ?_);rw[if_neg (-0)]
 refine À (Tuple_ (thn (ha _ pins s σ H _ I h) λus s1 ⟨vs,H1,I1,r1,q1⟩=>?_));obtain⟨v,w,e1,q1⟩:=q1;subst e1;obtain⟨u1,u2,rfl,rv,rw'⟩:∃ u1 u2,us=[u1,u2]/\RelV v u1/\RelV w u2:=by
  cases r1 with
  |cons p q =>
   cases q with
   |cons p' q' =>
    cases q';exact⟨_,_,rfl,p,p'⟩
 refine ò ?_ (by show 2<=sizeLine;decide)
 have I2:Inv X pins σ H1 { s1 with heap:=s1.heap.push { cls:=.type "tuple",data:=.seq [u1,u2].toArray } }:=I1.kept (t':=s1.toks) λb o e=>Ä _ e;rw[hw];refine À (Ç ?_);show Ñ (Ö X.prog X.w) X.A (do rule "assign.swapped-stores";let items ← unpackItems (.ref s1.heap.objs.size) 2 none;assignInOrder [λv=>bindName X.env y v,λv=>bindName X.env x v] items.reverse;pure Flow.next) _ _ _;refine À (Ï5 (À (unpackItems_tuple (items:=#[u1,u2]) (I.ok.hd hc) (Í3.new s1.heap _) λh' hx'=>?_)));have I3:=I2.kept (h':=h') (t':=s1.toks) λb o e=>hx' b o (å (ß e)) e;show Ñ _ _ (assignInOrder [λv=>bindName X.env y v,λv=>bindName X.env x v] [u2,u1] >>= λ_=>pure Flow.next) _ _ _;refine À (Ø8 (wpAny_bindName (u20 I3 hN hj (.inl hy) rw' (λs2 I4=>?_) (.inr hy))));refine Ø8 (wpAny_bindName (u20 I4 hN hi (.inl hx) rv (λs3 I5=>assignInOrder_nil (Ç ?_)) (.inr hx)));rw[List.set_comm _ _ (Â2 hij)] at I5;exact⟨_,H1,I5,q1⟩
def K92(i:Nat)(te:TE)(ti:TIp):TS:=λD σ H=>∃ x,σ[i]?=some (some x)/\te σ H λy H1=>ti x y H1 λz H2=>D.nx (σ.set i (some z)) H2
theorem h42{i:Nat}{x:Str}{e:Ï}{te:TE}{op:Í0}{ti:TIp}{pos':Pos}(hN:X.N.Nodup)(hi:X.N[i]?=some x)(hx:Loc X.env.scope x)(he:PE X e te)(ho:PIp X op ti)(hf:X.fn x=true∨X.env.scope.names.lookup x=some .local:=by first | exact .inl rfl | exact .inr rfl | assumption) :
  PS X (.AugAssign (.Name x pos') op e pos) (K92 i te ti):=by
 intro pins s σ H D I h;obtain⟨v,e1,h⟩:=h;obtain⟨m,hn,hl⟩:=I.loc;have vis:Vis X.env.scope x:=by rcases hx with k | k;exact .inl k;exact .inr (.inl k)
 obtain⟨u,r,l⟩:=hl i x v hi e1 vis;refine wpAny_AugAssign_Name ?_;have go:Ñ (Ö X.prog X.w) X.A (eval e X.env) (λw s₂=>Ñ (Ö X.prog X.w) X.A (inplaceOp op u w) (λr s₃=>Ñ (Ö X.prog X.w) X.A (storeName X.env x r) (λ_=>SP X pins D .next) X.xe s₃) X.xe s₂) X.xe s:=by
  refine thn (he pins s σ H _ I h) λw s1 ⟨y,H1,I1,r1,q1⟩=>?_;refine thn (ho pins s1 σ H1 v y u w _ I1 r r1 q1) λz s2 ⟨zv,H2,I2,r2,q2⟩=>?_;exact u20 I2 hN hi hx r2 (λs3 I3=>⟨_,H2,I3,q2⟩) hf
 rcases l with ⟨hk,hm⟩ | ⟨hk,c,hc,hcell⟩
 ·exact Ì7 I.ok.kind hk hn hm go
 ·rcases hk with hk | hk
  ·exact Ö5 I.ok.kind hk hc hcell go
  ·rcases hx with k | k
   ·have:X.env.scope.names.lookup x=some .free:=hk;rw[k] at this;cases this
   ·have:X.env.scope.names.lookup x=some .free:=hk;rw[k] at this;cases this
def w32(to ti te:TE)(tget:V->V->Hp->VK->Prop)(tip:TIp)(tset:g62):TS:=λD σ H=>to σ H λo H1=>ti σ H1 λi H2=>tget o i H2 λx H3=>te σ H3 λy H4=>tip x y H4 λz H5=>tset o i z H5 λH6=>D.nx σ H6
def L02(X:Cx)(t:V->V->Hp->VK->Prop):Prop :=
 ∀ (pins:List (Æ × Obj)) (s:Å) (σ:St) (H:Hp) (o i:V) (ov iv:Ã) (Q:VK),Inv X pins σ H s->RelV o ov->RelV i iv->t o i H Q ->
  Ñ (Ö X.prog X.w) X.A (Ñ1 ov iv) (EP X pins σ Q) X.xe s
theorem w42{o i e:Ï}{to ti te:TE}{tget:V->V->Hp->VK->Prop}{tip:TIp}{tset:g62}{op:Í0}{tpos:Pos}(ho:PE X o to)(hi:PE X i ti)(hg:L02 X tget)(he:PE X e te)(hp:PIp X op tip)(hs:w22 X tset)
  (ha:∀ ov iv new,augStore i ov iv new=(do Ú1 [new,ov,iv] (setItem ov iv new);release [new,ov,iv] [];pure .next):=by intros;rfl):PS X (.AugAssign (.Subscript o i tpos) op e pos) (w32 to ti te tget tip tset):=by
 intro pins s σ H D I h;refine wpAny_AugAssign_SubscriptAny (thn (ho pins s σ H _ I h) λov s1 ⟨x1,H1,I1,r1,q1⟩=>?_) ha;refine thn (hi pins s1 σ H1 _ I1 q1) λiv s2 ⟨x2,H2,I2,r2,q2⟩=>?_;refine thn (hg pins s2 σ H2 x1 x2 ov iv _ I2 r1 r2 q2) λold s3 ⟨x3,H3,I3,r3,q3⟩=>?_;refine thn (he pins s3 σ H3 _ I3 q3) λv s4 ⟨x4,H4,I4,r4,q4⟩=>?_;refine thn (hp pins s4 σ H4 x3 x4 old v _ I4 r3 r4 q4) λnew s5 ⟨x5,H5,I5,r5,q5⟩=>?_;exact thn (hs pins s5 σ H5 x1 x2 x5 ov iv new _ I5 r1 r2 r5 q5) λ_ s6 ⟨H6,I6,q6⟩=>⟨σ,H6,I6,q6⟩
def ipI(f:Int->Int->Int):TIp:=λx y H Q=>∃ i j,x=.int i/\y=.int j/\Q (.int (f i j)) H
theorem H02:PIp X .Add (ipI λi j=>i + j):=by
 intro pins s σ H x y v u Q I r1 r2 h;obtain⟨i,j,e1,e2,q⟩:=h;subst e1;subst e2;obtain⟨t,rfl⟩:=r1;obtain⟨t',rfl⟩:=r2;exact iadd_int ⟨.int _,H,I.tok _,⟨_,rfl⟩,q⟩
def h52(c:TT)(tb:TS):TS:=λD σ H=>∃ W:Nat->St->Hp->Prop,(∃ m,W m σ H)/\∀ m σ H,W m σ H ->
 c σ H λb H1=>if b=true then ∃ N:St->Hp->Prop,(∀ σ' H',N σ' H'->∃ m',m' < m/\W m' σ' H')/\tb { D with nx:=N,ct:=N,bk:=D.nx } σ H1 else D.nx σ H1
theorem D91{c:Ï}{body:List Ä4}{tc:TT}{tb:TS}(hp:PassesOwn (Ö X.prog X.w) X.A X.env X.xe)(hc:PT X c tc)(hb:PSs X body tb):PS X (.While c body [] pos) (h52 tc tb):=by
 intro pins s σ H D I h;obtain⟨W,⟨m0,w0⟩,turn⟩:=h;refine wpAny_While (codeAny_whileLoop (λn s'=>∃ σ' H',Inv X pins σ' H' s'/\W n σ' H') ?_ m0 ⟨σ,H,I,w0⟩);rintro n s1 ⟨σ1,H1,I1,w1⟩;refine Ç1 hp (thn (hc pins s1 σ1 H1 _ I1 (turn n σ1 H1 w1)) λb s2 ⟨H2,I2,q2⟩=>?_);cases b with
 |true =>
  obtain⟨N,hN,q2⟩:=q2;rw[if_pos rfl];refine Ç1 hp (thn (hb pins s2 σ1 H2 _ I2 q2) λf s3 q3=>?_);cases f with
  |next =>
   obtain⟨σ3,H3,I3,n3⟩:=q3;obtain⟨m',hm,w3⟩:=hN σ3 H3 n3;exact⟨m',hm,σ3,H3,I3,w3⟩
  |cont =>
   obtain⟨σ3,H3,I3,n3⟩:=q3;obtain⟨m',hm,w3⟩:=hN σ3 H3 n3;exact⟨m',hm,σ3,H3,I3,w3⟩
  |brk=>exact q3|ret v=>exact q3
 |false =>
  rw[if_neg Ò];exact Í6 ⟨σ1,H2,I2,q2⟩
end
structure It where
 go:Nat->Hp->Prop
 yld:Nat->Hp->V->Hp->Prop
 stop:Nat->Hp->Prop
def X70(X:Cx)(pins:List (Æ × Obj))(H:Hp)(b:Æ):Prop :=
 H b=none/\b≠X.env.locals/\b ∉ X.fs/\(b∈X.ex∨X.s₀.heap.objs.size<=b)/\(∀ x c,X.env.cells.lookup x=some c->c≠b)/\∀ p∈X.pn++pins,p.1≠b
theorem Inv.o21{X:Cx}{pins:List (Æ × Obj)}{σ:St}{H H':Hp}{s:Å}{b:Æ}(I:Inv X pins σ H s)(hb:s.heap.objs.size<=b)(hn:H' b=none):X70 X pins H' b:=by
 refine⟨hn,Î5 (Ù I.lt hb),I.J92 hb,.inr (Þ I.sz hb),λx c e z=>?_,λp hp z=>?_⟩
 ·obtain⟨v,q⟩:=I.cell x c e;exact absurd (Ù q.lt (by rw[z];exact hb)) (À3 _)
 ·exact absurd (Ù (ß (I.pin p hp).1) (by rw[z];exact hb)) (À3 _)
structure Turn(P:Program)(w:World)(K:PySem.W.Frag)(tg:Expr)(J:It)(fp:List Addr)(it:Addr)(tn:Nat->Heap->Prop):Prop where
 mem:it∈fp
 obj:∀ i h,tn i h->∀ b∈fp,∃ o,h.get? b=some o/\∀ v,o.data≠.cell v
 keep:∀ i h h',tn i h->(∀ b∈fp,∀ o,h.get? b=some o->h'.get? b=some o)->tn i h'
 item:∀ (X:Cx),X.prog=P->X.w=w->X.K=K->X.calm=true->∀ (i:Nat) (pins:List (Addr × Obj)) (s:Shared) (σ:St) (H:Hp) (E:Value->Shared->Prop),Inv X pins σ H s->(∀ b∈fp,X70 X pins H b)->tn i s.heap->J.go i H ->
  wpAny (model P w) X.A (pyNext (.ref it)) (λr s1=>∃ u,r=some u /\
   wpAny (model P w) X.A (letOwnedTupleGo tg (.ref it) u) (λ_ s2=>∃ x H',Inv X pins σ H' s2/\RelV x u/\J.yld i H x H'/\tn (i + 1) s2.heap/\∀ b∈fp,H' b=none) E s1) E s
 done:∀ (X:Cx),X.prog=P->X.w=w->X.K=K->X.calm=true->∀ (i:Nat) (pins:List (Addr × Obj)) (s:Shared) (σ:St) (H:Hp) (E:Value->Shared->Prop),Inv X pins σ H s->(∀ b∈fp,X70 X pins H b)->tn i s.heap->J.stop i H ->
  wpAny (model P w) X.A (pyNext (.ref it)) (λr s1=>r=none/\Inv X pins σ H s1) E s
 self:∀ (A:Around) (i:Nat) (s:Shared) (Q:Value->Shared->Prop) (E:Value->Shared->Prop),tn i s.heap->Q (.ref it) s->wpAny (model P w) A (pyIter (.ref it)) Q E s
abbrev TI:=St->Hp->(It->Hp->Prop)->Prop
def PIE(X:Cx)(pins:List (Æ × Obj))(σ:St)(tg:Ï)(R:It->Hp->Prop)(itv:Ã)(s2:Å):Prop :=
 ∃ (it:Æ) (fp:List Æ) (tn:Nat->æ->Prop) (J:It) (H':Hp),itv=.ref it/\Inv X pins σ H' s2/\Turn X.prog X.w X.K tg J fp it tn/\tn 0 s2.heap/\(∀ b∈fp,X70 X pins H' b)/\R J H'
def PI(X:Cx)(tg iter:Ï)(wi:TI):Prop :=
 ∀ (pins:List (Æ × Obj)) (s:Å) (σ:St) (H:Hp) (R:It->Hp->Prop),Inv X pins σ H s->wi σ H R ->
  Ñ (Ö X.prog X.w) X.A (eval iter X.env) (λv s1=>Ñ (Ö X.prog X.w) X.A (pyIter v) (PIE X pins σ tg R) X.xe s1) X.xe s
theorem T01{M:Model}{A:ö}{E:Ã->Å->Prop}{s:Å}{tg:Ï}{it:Æ}{u:Ã}{o:Obj}{n:String}{vs:Array Ã}{Q:Unit->Å->Prop}(ho:s.heap.get? it=some o)(hc:o.cls=.type n)(hd:o.data=.fields vs)
  (hn:["enumerate","zip","dict_itemiterator","dict_reverseitemiterator","odict_iterator","itertools.zip_longest","itertools.pairwise"].contains n=false) (hQ:Q () s):Ñ M A (Ü8 tg (.ref it) u) Q E s:=by
 unfold Ü8;cases tg <;> first
  |exact Ç hQ
  |(cases u <;> first
    |exact Ç hQ
    |(refine À (wpAny_load ho ?_)
      rw[hc,hd];show Ñ M A (if (["enumerate","zip","dict_itemiterator","dict_reverseitemiterator","odict_iterator","itertools.zip_longest","itertools.pairwise"].contains n&&vs[0]? == some (Ç2 _))=true then _ else _) Q E s;rw[if_neg (by intro h;rw[hn,Ó8] at h;cases h)]
      exact Ç hQ))
def Itl(K:Â)(a:Æ):It :=
 ⟨λi H=>∃ xs x,SqL K H a xs/\xs[i]?=some x,λi H x H'=>H'=H/\∀ xs,SqL K H a xs->xs[i]?=some x,λi H=>∃ xs,SqL K H a xs/\xs.length<=i⟩
def Itt(K:Â)(a:Æ):It :=
 ⟨λi H=>∃ xs x,SqT K H a xs/\xs[i]?=some x,λi H x H'=>H'=H/\∀ xs,SqT K H a xs->xs[i]?=some x,λi H=>∃ xs,SqT K H a xs/\xs.length<=i⟩
def Itr(lo:Int)(n:Nat):It:=⟨λi _=>i < n,λi H x H'=>H'=H/\x=.int (lo + i),λi _=>n<=i⟩
theorem p21{P:Ü}{w:ì}{K:Â}{tg:Ï}(a it:Æ):Turn P w K tg (Itl K a) [it] it (λi h=>h.IsListIter it a i) where
 mem:=by simp
 obj:=λi h st b hb=>by
  have e:b=it:=by simpa using hb
  subst e;obtain⟨o,e,c,d⟩:=st;exact⟨o,e,λv z=>by rw[d] at z;cases z⟩
 keep:=λi h h' st k=>st.at λo e=>k it (by simp) o e
 item:=by
  intro X hP hw hK hc i pins s σ H E I hf st hg;subst hP hw hK;obtain⟨xs,x,hq,hx⟩:=hg;obtain⟨its,rv,p,hz⟩:=I.list hq;obtain⟨u,hu,ru⟩:=rv.get hx;obtain⟨f0,f1,f2,f3,f4,f5⟩:=hf it (by simp)
  refine wpAny_pyNext_list_item st p.isList (x:=u) (by simpa using hu) λh' st' sb=>?_
  have I1:Inv X pins σ H { s with heap:=h' }:=I.turned (t':=s.toks) (λb o hb e=>(sb.2 b hb).trans e) f0 f1 f3 f4 f5;obtain⟨o,e,c,d⟩:=id st';exact⟨u,rfl,T01 (s:={ s with heap:=h' }) e c d (-0) ⟨x,H,I1,ru,⟨rfl,λys hy=>by rw[I.d81 hy hq];exact hx⟩,st',λb hb=>(hf b hb).1⟩⟩
 done:=by
  intro X hP hw hK hc i pins s σ H E I hf st hg;subst hP hw hK;obtain⟨xs,hq,hx⟩:=hg;obtain⟨its,rv,p,hz⟩:=I.list hq;obtain⟨f0,f1,f2,f3,f4,f5⟩:=hf it (by simp)
  have hl:=rv.length;exact wpAny_pyNext_list_end (I.ok.hd hc) st p.isList (by simp;omega) λh' eb=>⟨rfl,I.turned (t':=s.toks) (λb o hb e=>eb b o hb e) f0 f1 f3 f4 f5⟩
 self:=λ_ _ _ _ _ st h=>wpAny_pyIter_listiter st h
theorem k61{P:Ü}{w:ì}{K:Â}{tg:Ï}(a it:Æ):Turn P w K tg (Itt K a) [it] it (λi h=>h.IsTupleIter it a i) where
 mem:=by simp
 obj:=λi h st b hb=>by
  have e:b=it:=by simpa using hb
  subst e;obtain⟨o,e,c,d⟩:=st;exact⟨o,e,λv z=>by rw[d] at z;cases z⟩
 keep:=λi h h' st k=>st.at λo e=>k it (by simp) o e
 item:=by
  intro X hP hw hK hc i pins s σ H E I hf st hg;subst hP hw hK;obtain⟨xs,x,hq,hx⟩:=hg;obtain⟨its,rv,p,hz⟩:=I.tuple hq;obtain⟨u,hu,ru⟩:=rv.get hx;obtain⟨f0,f1,f2,f3,f4,f5⟩:=hf it (by simp)
  refine wpAny_pyNext_tuple_item st (show s.heap.IsTuple a its.toArray from p) (x:=u) (by simpa using hu) λh' st' sb=>?_
  have I1:Inv X pins σ H { s with heap:=h' }:=I.turned (t':=s.toks) (λb o hb e=>(sb.2 b hb).trans e) f0 f1 f3 f4 f5;obtain⟨o,e,c,d⟩:=id st';exact⟨u,rfl,T01 (s:={ s with heap:=h' }) e c d (-0) ⟨x,H,I1,ru,⟨rfl,λys hy=>by rw[I.P00 hy hq];exact hx⟩,st',λb hb=>(hf b hb).1⟩⟩
 done:=by
  intro X hP hw hK hc i pins s σ H E I hf st hg;subst hP hw hK;obtain⟨xs,hq,hx⟩:=hg;obtain⟨its,rv,p,hz⟩:=I.tuple hq;obtain⟨f0,f1,f2,f3,f4,f5⟩:=hf it (by simp)
  have hl:=rv.length;exact wpAny_pyNext_tuple_end (I.ok.hd hc) st (show s.heap.IsTuple a its.toArray from p) (by simp;omega) λh' eb=>⟨rfl,I.turned (t':=s.toks) (λb o hb e=>eb b o hb e) f0 f1 f3 f4 f5⟩
 self:=λ_ _ _ _ _ st h=>wpAny_pyIter_tupleiter st h
theorem k71{P:Ü}{w:ì}{K:Â}{tg:Ï}(it:Æ)(lo:Int)(n:Nat):Turn P w K tg (Itr lo n) [it] it (λi h=>IsRangeIter h it (lo + (i:Nat) * 1) ((n:Int) - (i:Nat)) 1) where
 mem:=by simp
 obj:=λi h st b hb=>by
  have e:b=it:=by simpa using hb
  subst e;exact⟨_,st,λv z=>by
   have z':Data.fields _=Data.cell v:=z;cases z'⟩
 keep:=λi h h' st k=>k it (by simp) _ st
 item:=by
  intro X hP hw hK hc i pins s σ H E I hf st hg;subst hP hw hK;obtain⟨f0,f1,f2,f3,f4,f5⟩:=hf it (by simp)
  have W:=Walks.range (prog:=X.prog) (w:=X.w) (I.ok.hd hc) it lo 1 n;refine W.item i s _ _ hg st λv h' tk hv st' kk=>?_;obtain⟨t,rfl⟩:=hv;have I1:Inv X pins σ H { s with heap:=h',toks:=tk }:=I.turned (λb o hb e=>kk b o (by simpa using hb) e) f0 f1 f3 f4 f5
  refine⟨_,rfl,T01 (s:={ s with heap:=h',toks:=tk }) (n:="range_iterator") st' rfl rfl (-0) ⟨.int (lo + i),H,I1,⟨t,?_⟩,⟨rfl,rfl⟩,st',λb hb=>(hf b hb).1⟩⟩
  rw[mul_one]
 done:=by
  intro X hP hw hK hc i pins s σ H E I hf st hg;subst hP hw hK;obtain⟨f0,f1,f2,f3,f4,f5⟩:=hf it (by simp)
  exact wpAny_pyNext_range_end (I.ok.hd hc) st (by have:n<=i:=hg;omega) λh' eb=>⟨rfl,I.turned (t':=s.toks) (λb o hb e=>eb b o hb e) f0 f1 f3 f4 f5⟩
 self:=λ_ _ _ _ _ st h=>wpAny_pyIter_rangeiter st h
section
variable {X:Cx}{tg:Ï}
def w52(K:Â)(tl:TE):TI:=λσ H R=>tl σ H λx H1=>∃ a,x=.ref a/\(∃ xs,SqL K H1 a xs)/\R (Itl K a) H1
def L12(K:Â)(tl:TE):TI:=λσ H R=>tl σ H λx H1=>∃ a,x=.ref a/\(∃ xs,SqT K H1 a xs)/\R (Itt K a) H1
theorem I90{l:Ï}{tl:TE}(hl:PE X l tl):PI X tg l (w52 X.K tl):=by
 intro pins s σ H R I h;refine thn (hl pins s σ H _ I h) λv s1 ⟨x,H1,I1,r1,q1⟩=>?_;obtain⟨a,e,⟨xs,hq⟩,q⟩:=q1;subst e;cases r1;obtain⟨its,rv,p,hz⟩:=I1.list hq;refine wpAny_pyIter_list p.isList ?_;refine⟨s1.heap.objs.size,[s1.heap.objs.size],_,_,H1,rfl,I1.kept (t':=s1.toks) λb o e=>Ä _ e,p21 a _,⟨_,Î _ rfl,rfl,rfl⟩,λb hb=>?_,q⟩;have e:b=s1.heap.objs.size:=by simpa using hb
 subst e;exact I1.o21 (Ë _) (I1.hok.fresh (Ë _))
theorem O41{l:Ï}{tl:TE}(hl:PE X l tl):PI X tg l (L12 X.K tl):=by
 intro pins s σ H R I h;refine thn (hl pins s σ H _ I h) λv s1 ⟨x,H1,I1,r1,q1⟩=>?_;obtain⟨a,e,⟨xs,hq⟩,q⟩:=q1;subst e;cases r1;obtain⟨its,rv,p,hz⟩:=I1.tuple hq;refine É8 (show s1.heap.IsTuple a its.toArray from p) ?_;refine⟨s1.heap.objs.size,[s1.heap.objs.size],_,_,H1,rfl,I1.kept (t':=s1.toks) λb o e=>Ä _ e,k61 a _,⟨_,Î _ rfl,rfl,rfl⟩,λb hb=>?_,q⟩;have e:b=s1.heap.objs.size:=by simpa using hb
 subst e;exact I1.o21 (Ë _) (I1.hok.fresh (Ë _))
theorem e01{pins:List (Æ × Obj)}{σ:St}{H:Hp}{s:Å}{R:It->Hp->Prop}{E:Ã->Å->Prop}{lo hi:Int}{t u v:Tok}{tk:Nat}(I:Inv X pins σ H s)(h1:-(2 ^ 62)<=lo)(h2:lo < 2 ^ 62)(h3:-(2 ^ 62)<=hi)(h4:hi < 2 ^ 62)
  (q:R (Itr lo (hi - lo).toNat) H):Ñ (Ö X.prog X.w) X.A (pyIter (.ref s.heap.objs.size)) (PIE X pins σ tg R) E { s with heap:=s.heap.push { cls:=.type "range",data:=.fields #[.int lo t,.int hi u,.int 1 v] },toks:=tk }:=by
 refine wpAny_pyIter_range (Ó9.new ..) (small_one h1 h2 h3 h4) ?_;have I1:Inv X pins σ H { s with heap:=s.heap.push { cls:=.type "range",data:=.fields #[.int lo t,.int hi u,.int 1 v] },toks:=tk }:=I.kept λb o e=>Ä _ e;refine⟨(s.heap.push { cls:=.type "range",data:=.fields #[.int lo t,.int hi u,.int 1 v] }).objs.size,[(s.heap.push { cls:=.type "range",data:=.fields #[.int lo t,.int hi u,.int 1 v] }).objs.size],_,_,H,rfl,
  I1.kept (t':=tk) λb o e=>Ä _ e,k71 _ lo (hi - lo).toNat,?_,λb hb=>?_,q⟩
 ·have e1:lo + ((0:Nat):Int) * 1=lo:=by simp
  have e2:(((hi - lo).toNat:Nat):Int) - ((0:Nat):Int)=Â5 lo hi 1:=by rw[rangeSize_one];split <;> omega
  show IsRangeIter _ _ (lo + ((0:Nat):Int) * 1) ((((hi - lo).toNat:Nat):Int) - ((0:Nat):Int)) 1;rw[e1,e2];exact Î _ rfl
 ·have e:b=(s.heap.push { cls:=.type "range",data:=.fields #[.int lo t,.int hi u,.int 1 v] }).objs.size:=by simpa using hb
  subst e;exact I1.o21 (Ë _) (I1.hok.fresh (Ë _))
def w62(ta:TA):TI:=λσ H R=>ta σ H λvs H1=>∃ j:Int,vs=[.int j]/\-(2 ^ 62)<=j/\j < 2 ^ 62/\R (Itr 0 j.toNat) H1
def w72(ta:TA):TI:=λσ H R=>ta σ H λvs H1=>∃ i j:Int,vs=[.int i,.int j]/\(-(2 ^ 62)<=i/\i < 2 ^ 62/\-(2 ^ 62)<=j/\j < 2 ^ 62)/\R (Itr i (j - i).toNat) H1
theorem P10{a:Ï}{ta:TA}{p pos:Pos}(hg:Gl X "range")(hm:X.mg "range"=none)(ha:PA X [a] ta)(hs:ó [a] X.env=[(false,eval a X.env)]:=by rfl):PI X tg (.Call (.Name "range" p) [a] [] pos) (w62 ta):=by
 intro pins s σ H R I h;refine Call_ (u30 I hg hm boot_range (À0 (thn (ha pos pins s σ H _ I h) λus s1 ⟨vs,H1,I1,r1,q1⟩=>?_) hs rfl));obtain⟨j,e,q1,q2,q⟩:=q1;subst e;cases r1 with
 |cons r rr =>
  cases rr;obtain⟨t,rfl⟩:=r;exact call_range_1 (e01 I1 ∅ ∅ q1 q2 (by simpa using q))
theorem p31{a b:Ï}{ta:TA}{p pos:Pos}(hg:Gl X "range")(hm:X.mg "range"=none)(ha:PA X [a,b] ta)(hs:ó [a,b] X.env=[(false,eval a X.env),(false,eval b X.env)]:=by rfl)(hs2:ó [b] X.env=[(false,eval b X.env)]:=by rfl) :
  PI X tg (.Call (.Name "range" p) [a,b] [] pos) (w72 ta):=by
 intro pins s σ H R I h;refine Call_ (u30 I hg hm boot_range (À0 (thn (ha pos pins s σ H _ I h) λus s1 ⟨vs,H1,I1,r1,q1⟩=>?_) (by rw[hs,hs2]) (by rw[hs2];rfl)))
 obtain⟨i,j,e,⟨q1,q2,q3,q4⟩,q⟩:=q1;subst e;cases r1 with
 |cons r rr =>
  cases rr with
  |cons r' rr =>
   cases rr;obtain⟨t,rfl⟩:=r;obtain⟨t',rfl⟩:=r';exact call_range_2 (e01 I1 q1 q2 q3 q4 q)
def L22(wi:TI)(g:TG)(tb:TS):TS:=λD σ H=>wi σ H λJ H1=>∃ W:Nat->Nat->St->Hp->Prop,(∃ m,W 0 m σ H1)/\∀ i m σ H,W i m σ H ->
 (J.stop i H/\D.nx σ H)∨(J.go i H/\∃ N:St->Hp->Prop,(∀ σ' H',N σ' H'->∃ m',m' < m/\W (i + 1) m' σ' H')/\∀ x H',J.yld i H x H'->g x σ H' λσ2 H2=>tb { D with nx:=N,ct:=N,bk:=D.nx } σ2 H2)
def C70(fp:List Æ)(h:æ):List (Æ × Obj):=fp.filterMap λb=>(h.get? b).map λo=>(b,o)
theorem k70{fp:List Æ}{h:æ}{b:Æ}{o:Obj}(hb:b∈fp)(e:h.get? b=some o):(b,o)∈C70 fp h:=Ô8.mpr ⟨b,hb,by rw[e];rfl⟩
theorem P20{fp:List Æ}{h:æ}{p:Æ × Obj}(hp:p∈C70 fp h):p.1∈fp/\h.get? p.1=some p.2:=by
 obtain⟨b,hb,e⟩:=Ô8.mp hp;cases q:h.get? b with
 |none=>rw[q] at e;cases e
 |some o =>
  rw[q] at e;have e':(b,o)=p:=À9 e;subst e';exact⟨hb,q⟩
theorem Inv.pinned{pins:List (Æ × Obj)}{σ:St}{H:Hp}{s:Å}{fp:List Æ}(I:Inv X pins σ H s)(hf:∀ b∈fp,X70 X pins H b)(ho:∀ b∈fp,∃ o,s.heap.get? b=some o/\∀ v,o.data≠.cell v):Inv X (pins++C70 fp s.heap) σ H s :=
 I.C50 λp hp=>(Â3.mp hp).elim (λz=>I.pin p (ê _ z)) λz=>by
  obtain⟨hb,e⟩:=P20 z;obtain⟨f0,f1,f2,_⟩:=hf p.1 hb;obtain⟨o,e',d⟩:=ho p.1 hb;rw[e] at e';cases e';exact⟨e,f0,f1,f2,d⟩
theorem Inv.J00{pins pl:List (Æ × Obj)}{σ:St}{H:Hp}{s:Å}(I:Inv X (pins++pl) σ H s):Inv X pins σ H s:=I.C50 λp hp=>I.pin p (ê _ (Å0 _ hp))
theorem p41{iter:Ï}{body:List Ä4}{wi:TI}{g:TG}{tb:TS}{pos:Pos}(hp:PassesOwn (Ö X.prog X.w) X.A X.env X.xe)(hc:X.calm=true)(hi:PI X tg iter wi)(hg:PG X tg g)(hb:PSs X body tb)
  (hs:∀ x,Ç6 iter X.env x=pure x:=by intro _;rfl):PS X (.For tg iter body [] pos) (L22 wi g tb):=by
 intro pins s σ H D I h;refine wpAny_For (thn (hi pins s σ H _ I h) λv s1 h1=>thn h1 λitv s2 h2=>?_) hs;obtain⟨it,fp,tn,J,H2,e,I2,T,st2,f2,W,⟨m0,w0⟩,turn⟩:=h2;subst e;have stat:∀ {H':Hp},(∀ b∈fp,H' b=none)->∀ b∈fp,X70 X pins H' b:=λhn b hb=>⟨hn b hb,(f2 b hb).2⟩;refine codeAny_forLoop_any (λn s'=>∃ i σ' H',Inv X pins σ' H' s'/\tn i s'.heap/\(∀ b∈fp,H' b=none)/\W i n σ' H') ?_ m0 ⟨0,σ,H2,I2,st2,λb hb=>(f2 b hb).1,w0⟩;rintro n s3 ⟨i,σ3,H3,I3,st3,fr3,w3⟩;rcases turn i n σ3 H3 w3 with ⟨stop,qn⟩ | ⟨go,N,hN,step⟩
 ·refine Ç1 hp (thn (T.done X rfl rfl rfl hc i pins s3 σ3 H3 X.xe I3 (stat fr3) st3 stop) λr s4 ⟨hr,I4⟩=>?_);subst hr;exact Í6 ⟨σ3,H3,I4,qn⟩
 ·refine Ç1 hp (thn (T.item X rfl rfl rfl hc i pins s3 σ3 H3 X.xe I3 (stat fr3) st3 go) λr s4 ⟨u,hr,h4⟩=>?_);subst hr;refine Ç1 hp (thn h4 λ_ s5 ⟨x,H5,I5,r5,y5,st5,fr5⟩=>?_);have I5':=I5.pinned (stat fr5) (T.obj _ _ st5);refine Ç1 hp (thn (hg _ s5 σ3 H5 x u _ I5' r5 (step x H5 y5)) λ_ s6 ⟨σ6,H6,I6,q6⟩=>?_);refine Ç1 hp (thn (hb _ s6 σ6 H6 _ I6 q6) λf s7 q7=>?_);have again:∀ {σ7:St}{H7:Hp},Inv X (pins++C70 fp s5.heap) σ7 H7 s7->N σ7 H7->∃ m,m < n/\∃ i σ' H',Inv X pins σ' H' s7/\tn i s7.heap/\(∀ b∈fp,H' b=none)/\W i m σ' H':=λ{σ7 H7} I7 n7=>by
   obtain⟨m',hm,w7⟩:=hN σ7 H7 n7;refine⟨m',hm,i + 1,σ7,H7,I7.J00,T.keep _ _ _ st5 λb hb o e=>(I7.pin (b,o) (ê _ (ê _ (k70 hb e)))).1,λb hb=>?_,w7⟩;obtain⟨o,e,d⟩:=T.obj _ _ st5 b hb;exact(I7.pin (b,o) (ê _ (ê _ (k70 hb e)))).2.1
  cases f with
  |next=>obtain⟨σ7,H7,I7,n7⟩:=q7;exact again I7 n7
  |cont=>obtain⟨σ7,H7,I7,n7⟩:=q7;exact again I7 n7
  |brk=>obtain⟨σ7,H7,I7,q7⟩:=q7;exact⟨σ7,H7,I7.J00,q7⟩
  |ret v=>obtain⟨x7,σ7,H7,I7,r7,q7⟩:=q7;exact⟨x7,σ7,H7,I7.J00,r7,q7⟩
end
theorem E01{K:Â}{a:Æ}{xs:List V}{g:TG}{tb:TS}{D:Ends}{σ:St}{H:Hp}(Pv:Nat->St->Hp->Prop)(h0:Pv 0 σ H)(hl:∀ i σ H,i<=xs.length->Pv i σ H->SqL K H a xs)
  (hs:∀ i x σ H,xs[i]?=some x->Pv i σ H->g x σ H λσ2 H2=>tb { D with nx:=Pv (i + 1),ct:=Pv (i + 1),bk:=D.nx } σ2 H2) (hd:∀ σ H,Pv xs.length σ H->D.nx σ H) :
  ∃ W:Nat->Nat->St->Hp->Prop,(∃ m,W 0 m σ H)/\∀ i m σ H,W i m σ H ->
   ((Itl K a).stop i H/\D.nx σ H)∨((Itl K a).go i H/\∃ N:St->Hp->Prop,(∀ σ' H',N σ' H'->∃ m',m' < m/\W (i + 1) m' σ' H')/\∀ x H',(Itl K a).yld i H x H'->g x σ H' λσ2 H2=>tb { D with nx:=N,ct:=N,bk:=D.nx } σ2 H2):=by
 refine⟨λi m σ H=>m=xs.length - i/\i<=xs.length/\Pv i σ H,⟨xs.length,by simp,Å8 _,h0⟩,?_⟩
 rintro i m σ H ⟨rfl,hi,p⟩;have q:=hl i σ H hi p;by_cases hlt:i < xs.length
 ·refine .inr ⟨⟨xs,xs[i],q,by simp[hlt]⟩,Pv (i + 1),λσ' H' p'=>⟨xs.length - (i + 1),by omega,rfl,hlt,p'⟩,λx H' y=>?_⟩
  obtain⟨e,y⟩:=y;subst e;exact hs i x σ _ (y xs q) p
 ·have e:i=xs.length:=by omega
  subst e;exact .inl ⟨⟨xs,q,Ë _⟩,hd σ H p⟩
abbrev R2:=V->V->Hp->VK->Prop
def OpR(X:Cx)(f:Ã->Ã->Sem Ã)(r:R2):Prop :=
 ∀ (pins:List (Æ × Obj)) (s:Å) (σ:St) (H:Hp) (x y:V) (v u:Ã) (Q:VK),Inv X pins σ H s->RelV x v->RelV y u->r x y H Q ->
  Ñ (Ö X.prog X.w) X.A (f v u) (EP X pins σ Q) X.xe s
def UnR(X:Cx)(f:Ã->Sem Ã)(r:V->Hp->VK->Prop):Prop :=
 ∀ (pins:List (Æ × Obj)) (s:Å) (σ:St) (H:Hp) (x:V) (v:Ã) (Q:VK),Inv X pins σ H s->RelV x v->r x H Q ->
  Ñ (Ö X.prog X.w) X.A (f v) (EP X pins σ Q) X.xe s
def f50(X:Cx)(f:Ã)(r:List V->Hp->VK->Prop):Prop :=
 ∀ (pins:List (Æ × Obj)) (s:Å) (σ:St) (H:Hp) (xs:List V) (us:List Ã) (Q:VK),Inv X pins σ H s->Vals xs us->r xs H Q ->
  Ñ (Ö X.prog X.w) X.A (call f us) (EP X pins σ Q) X.xe s
def tOp(r:R2)(ta tb:TE):TE:=λσ H Q=>ta σ H λx H1=>tb σ H1 λy H2=>r x y H2 Q
def tUn(r:V->Hp->VK->Prop)(ta:TE):TE:=λσ H Q=>ta σ H λx H1=>r x H1 Q
def rI(C:Int->Int->Prop)(g:Int->Int->V):R2:=λx y H Q=>∃ i j,x=.int i/\y=.int j/\C i j/\Q (g i j) H
def rI0(g:Int->Int->V):R2:=λx y H Q=>∃ i j,x=.int i/\y=.int j/\Q (g i j) H
def rU(g:Int->V):V->Hp->VK->Prop:=λx H Q=>∃ i,x=.int i/\Q (g i) H
section
variable {X:Cx}{a b c:Ï}{ta tb tc:TE}{pos:Pos}
theorem w82(ha:PE X a ta)(hb:PE X b tb){pins:List (Æ × Obj)}{s:Å}{σ:St}{H:Hp}{R:V->V->Hp->Prop}(I:Inv X pins σ H s)
  (h:ta σ H λx H1=>tb σ H1 λy H2=>R x y H2) {Q:Ã->Å->Prop}{f:Ã->Ã->Sem Ã}
  (hf:∀ v u s2 x y H2,Inv X pins σ H2 s2->RelV x v->RelV y u->R x y H2->Ñ (Ö X.prog X.w) X.A (f v u) Q X.xe s2) :
  Ñ (Ö X.prog X.w) X.A (eval a X.env) (λv s₁=>Ñ (Ö X.prog X.w) X.A (eval b X.env) (λu s₂=>Ñ (Ö X.prog X.w) X.A (f v u) Q X.xe s₂) X.xe s₁) X.xe s:=by
 refine thn (ha pins s σ H _ I h) λv s1 ⟨x,H1,I1,r1,q1⟩=>?_;refine thn (hb pins s1 σ H1 _ I1 q1) λu s2 ⟨y,H2,I2,r2,q2⟩=>?_;exact hf v u s2 x y H2 I2 r1 r2 q2
theorem E11{op:Í0}{r:R2}(ho:OpR X (Ã1 op) r)(ha:PE X a ta)(hb:PE X b tb):PE X (.BinOp a op b pos) (tOp r ta tb):=by
 intro pins s σ H Q I h;exact wpAny_BinOp (w82 ha hb I h λv u s2 x y H2 I2 rx ry q=>ho pins s2 σ H2 x y v u Q I2 rx ry q)
theorem w92{op:UnaryOp}{r:V->Hp->VK->Prop}(ho:UnR X (unaryOp op) r)(ha:PE X a ta):PE X (.UnaryOp op a pos) (tUn r ta):=by
 intro pins s σ H Q I h;exact UnaryOp_ (thn (ha pins s σ H _ I h) λv s1 ⟨x,H1,I1,r1,q1⟩=>ho pins s1 σ H1 x v Q I1 r1 q1)
theorem opI{f:Ã->Ã->Sem Ã}{C:Int->Int->Prop}{g:Int->Int->Int}
  (rule:∀ (i j:Int) (t u:Tok) (s:Å) (Q:Ã->Å->Prop) (E:Ã->Å->Prop),C i j->Q (.int (g i j) s.toks) { s with toks:=s.toks + 1 }->Ñ (Ö X.prog X.w) X.A (f (.int i t) (.int j u)) Q E s) :
  OpR X f (rI C λi j=>.int (g i j)):=by
 intro pins s σ H x y v u Q I rx ry h;obtain⟨i,j,rfl,rfl,hc,q⟩:=h;obtain⟨t,rfl⟩:=rx;obtain⟨t',rfl⟩:=ry;exact rule i j t t' s _ _ hc ⟨.int (g i j),H,I.tok _,⟨_,rfl⟩,q⟩
theorem x02{f:Ã->Ã->Sem Ã}{g:Int->Int->Int}
  (rule:∀ (i j:Int) (t u:Tok) (s:Å) (Q:Ã->Å->Prop) (E:Ã->Å->Prop),Q (.int (g i j) s.toks) { s with toks:=s.toks + 1 }->Ñ (Ö X.prog X.w) X.A (f (.int i t) (.int j u)) Q E s) :
  OpR X f (rI0 λi j=>.int (g i j)):=by
 intro pins s σ H x y v u Q I rx ry h;obtain⟨i,j,rfl,rfl,q⟩:=h;obtain⟨t,rfl⟩:=rx;obtain⟨t',rfl⟩:=ry;exact rule i j t t' s _ _ ⟨.int (g i j),H,I.tok _,⟨_,rfl⟩,q⟩
theorem x12{f:Ã->Ã->Sem Ã}{g:Int->Int->Bool}
  (rule:∀ (i j:Int) (t u:Tok) (s:Å) (Q:Ã->Å->Prop) (E:Ã->Å->Prop),Q (.bool (g i j)) s->Ñ (Ö X.prog X.w) X.A (f (.int i t) (.int j u)) Q E s) :
  OpR X f (rI0 λi j=>.bl (g i j)):=by
 intro pins s σ H x y v u Q I rx ry h;obtain⟨i,j,rfl,rfl,q⟩:=h;obtain⟨t,rfl⟩:=rx;obtain⟨t',rfl⟩:=ry;exact rule i j t t' s _ _ ⟨.bl (g i j),H,I,rfl,q⟩
def H12(i j:Int):Prop:=0<=j/\j<=1000000/\i.natAbs < 2 ^ 64
theorem h62:OpR X (Ã1 .Add) (rI0 λi j=>.int (i + j)):=x02 λ_ _ _ _ _ _ _ q=>add_int q
theorem h72:OpR X (Ã1 .Sub) (rI0 λi j=>.int (i - j)):=x02 λ_ _ _ _ _ _ _ q=>sub_int q
theorem h82:OpR X (binaryOp .Mod) (rI (λ_ j=>0 < j) λi j=>.int (i % j)):=opI λi j _ _ _ _ _ hc q=>by
 have h1:(0:Int) < j:=hc;exact mod_int' ∅ (by rw[Int.fmod_eq_emod_of_nonneg i ∅];exact q)
theorem h92:OpR X (Ã1 .Pow) (rI H12 λi j=>.int (i ^ j.toNat)):=opI λ_ _ _ _ _ _ _ hc q=>pow_int_small hc.1 hc.2.1 hc.2.2 q
theorem H22:OpR X (Ã1 .LShift) (rI H12 λi j=>.int (i * 2 ^ j.toNat)):=opI λ_ _ _ _ _ _ _ hc q=>lshift_int_small hc.1 hc.2.1 hc.2.2 q
theorem H32:OpR X (Ã1 .BitAnd) (rI0 λi j=>.int (Ä3.bitAnd i j)):=x02 λ_ _ _ _ _ _ _ q=>and_int q
theorem unI{f:Ã->Sem Ã}{g:Int->Int}
  (rule:∀ (i:Int) (t:Tok) (s:Å) (Q:Ã->Å->Prop) (E:Ã->Å->Prop),Q (.int (g i) s.toks) { s with toks:=s.toks + 1 }->Ñ (Ö X.prog X.w) X.A (f (.int i t)) Q E s) :
  UnR X f (rU λi=>.int (g i)):=by
 intro pins s σ H x v Q I rx h;obtain⟨i,rfl,q⟩:=h;obtain⟨t,rfl⟩:=rx;exact rule i t s _ _ ⟨.int (g i),H,I.tok _,⟨_,rfl⟩,q⟩
theorem i02:UnR X (unaryOp .USub) (rU λi=>.int (-i)):=unI λ_ _ _ _ _ q=>neg_int q
theorem e11{pins:List (Æ × Obj)}{σ:St}{H:Hp}{s:Å}{Q:VK}{k k':Bool}(I:Inv X pins σ H s)(q:Q (.bl k) H)(e:k=k'):EP X pins σ Q (.bool k') s:=by
 subst e;exact⟨.bl k,H,I,rfl,q⟩
theorem x22:OpR X (ø .LtE) (rI0 λi j=>.bl (decide (i<=j))):=x12 λ_ _ _ _ _ _ _ q=>le_int q
theorem x32:OpR X (ø .Gt) (rI0 λi j=>.bl (decide (j < i))):=x12 λ_ _ _ _ _ _ _ q=>gt_int q
theorem x42:OpR X (ø .GtE) (rI0 λi j=>.bl (decide (j<=i))):=x12 λ_ _ _ _ _ _ _ q=>ge_int q
theorem i22:OpR X (ø .Is) (λx y H Q=>y=.non/\Q (.bl (decide (x=.non))) H):=by
 intro pins s σ H x y v u Q I rx ry h;obtain⟨rfl,q⟩:=h;cases ry;refine is_none_gen (e11 I q ?_);cases x <;> first
  |(cases rx;rfl)
  |(obtain⟨t,rfl⟩:=rx;rfl)
theorem x52:OpR X (ø .IsNot) (λx y H Q=>y=.non/\Q (.bl (!decide (x=.non))) H):=by
 intro pins s σ H x y v u Q I rx ry h;obtain⟨rfl,q⟩:=h;cases ry;refine isnot_none_gen (e11 I q ?_);cases x <;> first
  |(cases rx;rfl)
  |(obtain⟨t,rfl⟩:=rx;rfl)
theorem T11{op:CmpOp}{r:R2}(ho:OpR X (ø op) r)(ha:PE X a ta)(hb:PE X b tb)(hm:behindInMarks op b=false):PE X (.Compare a [op] [b] pos) (tOp r ta tb):=by
 intro pins s σ H Q I h;exact wpAny_Compare1 (w82 ha hb I h λv u s2 x y H2 I2 rx ry q=>ho pins s2 σ H2 x y v u Q I2 rx ry q) hm
def i32(t:TE):TT:=λσ H Q=>t σ H λx H'=>∃ k,x=.bl k/\Q k H'
theorem T21{op:CmpOp}{r:R2}(ho:OpR X (ø op) r)(ha:PE X a ta)(hb:PE X b tb)(hm:behindInMarks op b=false):PT X (.Compare a [op] [b] pos) (i32 (tOp r ta tb)):=by
 intro pins s σ H Q I h;refine wpAny_isTrue_Compare1 (thn (ha pins s σ H _ I h) λv s1 ⟨x,H1,I1,r1,q1⟩=>thn (hb pins s1 σ H1 _ I1 q1) λu s2 ⟨y,H2,I2,r2,q2⟩ =>
  thn (ho pins s2 σ H2 x y v u _ I2 r1 r2 q2) λc s3 ⟨z,H3,I3,r3,k,e,q3⟩=>?_) hm
 subst e;cases r3;exact Á3 ⟨H3,I3,q3⟩
def p51(r r':R2)(ta tb tc:TE):TE:=λσ H Q=>ta σ H λx H1=>tb σ H1 λy H2=>r x y H2 λz H3=>∃ k,z=.bl k /\
 (if k=true then tc σ H3 λw' H4=>r' y w' H4 Q else Q (.bl false) H3)
theorem E21{op op':CmpOp}{r r':R2}(ho:OpR X (ø op) r)(ho':OpR X (ø op') r')(ha:PE X a ta)(hb:PE X b tb)(hc:PE X c tc)
  (hm:lastMarks [op,op'] [b,c]=false:=by with_unfolding_all rfl):PE X (.Compare a [op,op'] [b,c] pos) (p51 r r' ta tb tc):=by
 intro pins s σ H Q I h;refine Compare_chain (thn (ha pins s σ H _ I h) λv s1 ⟨x,H1,I1,r1,q1⟩=>chain_link (thn (hb pins s1 σ H1 _ I1 q1) λu s2 ⟨y,H2,I2,r2,q2⟩ =>
  thn (ho pins s2 σ H2 x y v u _ I2 r1 r2 q2) λd s3 ⟨z,H3,I3,r3,k,e,q3⟩=>?_)) hm
 subst e;cases r3;refine Á3 ?_;cases k with
 |false=>exact ite_ff ⟨.bl false,H3,I3,rfl,q3⟩|true=>exact ite_tt (chain_last (thn (hc pins s3 σ H3 _ I3 q3) λw' s4 ⟨z',H4,I4,r4,q4⟩=>ho' pins s4 σ H4 y z' u w' Q I4 r2 r4 q4))
theorem E31{op op':CmpOp}{r r':R2}(ho:OpR X (ø op) r)(ho':OpR X (ø op') r')(ha:PE X a ta)(hb:PE X b tb)(hc:PE X c tc)
  (hm:lastMarks [op,op'] [b,c]=false:=by with_unfolding_all rfl):PT X (.Compare a [op,op'] [b,c] pos) (i32 (p51 r r' ta tb tc)):=by
 intro pins s σ H Q I h;refine isTrue_chain (thn (ha pins s σ H _ I h) λv s1 ⟨x,H1,I1,r1,q1⟩=>test_link (thn (hb pins s1 σ H1 _ I1 q1) λu s2 ⟨y,H2,I2,r2,q2⟩ =>
  thn (ho pins s2 σ H2 x y v u _ I2 r1 r2 q2) λd s3 ⟨z,H3,I3,r3,k,e,q3⟩=>?_)) hm
 subst e;cases r3;refine Á3 ?_;cases k with
 |false =>
  obtain⟨k',e',q'⟩:=q3;cases e';exact ite_ff ⟨H3,I3,q'⟩
 |true =>
  refine ite_tt (test_last (thn (hc pins s3 σ H3 _ I3 q3) λw' s4 ⟨z',H4,I4,r4,q4⟩=>thn (ho' pins s4 σ H4 y z' u w' _ I4 r2 r4 q4) λd' s5 ⟨z2,H5,I5,r5,k2,e2,q5⟩=>?_));subst e2;cases r5;exact Á3 ⟨H5,I5,q5⟩
theorem e21:(sizeLine:Nat) < 2 ^ 63:=by rw[Á4];decide
theorem vals1{x:V}{us:List Ã}(r:Vals [x] us):∃ u,us=[u]/\RelV x u:=by
 cases r with
 |cons r1 r2=>cases r2;exact⟨_,rfl,r1⟩
theorem vals2{x y:V}{us:List Ã}(r:Vals [x,y] us):∃ u w',us=[u,w']/\RelV x u/\RelV y w':=by
 cases r with
 |cons r1 r2 =>
  cases r2 with
  |cons r3 r4=>cases r4;exact⟨_,_,rfl,r1,r3⟩
theorem E41:f50 X (.builtin "abs") (λxs H Q=>∃ i,xs=[.int i]/\Q (.int (if i < 0 then -i else i)) H):=by
 intro pins s σ H xs us Q I r h;obtain⟨i,rfl,q⟩:=h;obtain⟨u,rfl,t,rfl⟩:=vals1 r;exact call_abs_int λu tk=>⟨.int (if i < 0 then -i else i),H,I.tok _,⟨_,rfl⟩,q⟩
theorem p61(hc:X.calm=true):f50 X (.builtin "max") (λxs H Q=>∃ i j,xs=[.int i,.int j]/\Q (.int (if j > i then j else i)) H):=by
 intro pins s σ H xs us Q I r h;obtain⟨i,j,rfl,q⟩:=h;obtain⟨u,w',rfl,⟨t,rfl⟩,⟨t',rfl⟩⟩:=vals2 r;refine max_two_ints (I.ok.hd hc) λh' tk k=>⟨_,H,I.kept k,?_,q⟩;by_cases hj:j > i
 ·rw[if_pos hj,if_pos hj];exact⟨_,rfl⟩
 ·rw[if_neg hj,if_neg hj];exact⟨_,rfl⟩
theorem p71(hc:X.calm=true):f50 X (.builtin "min") (λxs H Q=>∃ i j,xs=[.int i,.int j]/\Q (.int (if j < i then j else i)) H):=by
 intro pins s σ H xs us Q I r h;obtain⟨i,j,rfl,q⟩:=h;obtain⟨u,w',rfl,⟨t,rfl⟩,⟨t',rfl⟩⟩:=vals2 r;refine min_two_ints (I.ok.hd hc) λh' tk k=>⟨_,H,I.kept k,?_,q⟩;by_cases hj:j < i
 ·rw[if_pos hj,if_pos hj];exact⟨_,rfl⟩
 ·rw[if_neg hj,if_neg hj];exact⟨_,rfl⟩
theorem P30:f50 X (.type "int") (λxs H Q=>(∃ i,xs=[.int i]/\Q (.int i) H)∨∃ k,xs=[.bl k]/\Q (.int (if k then 1 else 0)) H):=by
 intro pins s σ H xs us Q I r h;rcases h with ⟨i,rfl,q⟩ | ⟨k,rfl,q⟩
 ·obtain⟨u,rfl,t,rfl⟩:=vals1 r;exact call_int_int ⟨.int i,H,I,⟨_,rfl⟩,q⟩
 ·obtain⟨u,rfl,r1⟩:=vals1 r;cases r1;exact call_int_bool ⟨.int (if k then 1 else 0),H,I.tok _,⟨_,rfl⟩,q⟩
end
structure z30(k:Nat)(A:Around):Prop where
 hd:A.handled=none
 dp:A.depth + 3 * k + 5 < recursionLimit
 un:A.units + 16 * k + 200 < cLine
theorem z30.deeper{k:Nat}{A:ö}(r:z30 (k + 1) A)(env:Env):z30 k (A.deeper env) :=
 ⟨r.hd,by have:=r.dp;show A.depth + 1 + 3 * k + 5 < _;omega,by have:=r.un;show A.units + 3 + 16 * k + 200 < _;omega⟩
theorem z30.depth{k:Nat}{A:ö}(r:z30 k A):A.depth < recursionLimit:=by have:=r.dp;omega
theorem z30.units{k:Nat}{A:ö}(r:z30 k A):A.units + 64 < cLine:=by have:=r.un;omega
def H42:TA:=λ_ H Q=>Q [] H
def i42(ta:TE)(tr:TA):TA:=λσ H Q=>ta σ H λx H1=>tr σ H1 λxs H2=>Q (x::xs) H2
section
variable {X:Cx}{e:Ï}{es:List Ï}{te:TE}{t:TA}{pos:Pos}
theorem r70:PA X [] H42:=λ_ _ _ _ H Q I h=>Î8 ⟨[],H,I,.nil,h⟩
theorem d40(ha:PE X e te)(hr:PA X es t)(hs:ó (e::es) X.env=(false,eval e X.env)::ó es X.env:=by rfl):PA X (e::es) (i42 te t):=by
 intro pos pins s σ H Q I h;rw[hs];show Ñ _ _ (spliced ((false,eval e X.env)::Ñ9 pos (ó es X.env))) _ _ s;refine Ô6 (thn (ha pins s σ H _ I h) λu s1 ⟨x,H1,I1,r1,q1⟩=>?_);exact thn (hr pos pins s1 σ H1 _ I1 q1) λus s2 ⟨xs,H2,I2,r2,q2⟩=>⟨x::xs,H2,I2,.cons r1 r2,q2⟩
def L32(t:TA):TE:=λσ H Q=>t σ H λxs H1=>xs.length<=sizeLine/\∀ p,H1 p=none->Q (.ref p) (upd H1 p (.tup xs))
def L42(t:TA):TE:=λσ H Q=>t σ H λxs H1=>xs.length<=sizeLine/\∀ p,H1 p=none->Q (.ref p) (upd H1 p (.lst xs))
theorem O51{x1}(h:PA X es t):PE X (.Tuple es x1 pos) (L32 t):=by
 intro pins s σ H Q I hq;refine wpAny_Tuple_spliced (thn (h pos pins s σ H _ I hq) λus s1 ⟨xs,H1,I1,r,z,q⟩=>⟨by rw[← r.length];exact z,?_⟩)
 have hf:H1 s1.heap.objs.size=none:=I1.hok.fresh (Ë _);refine⟨.ref s1.heap.objs.size,upd H1 s1.heap.objs.size (.tup xs),I1.laid (t':=s1.toks) (λb u e=>Ä _ e) (Ë _) ?_,rfl,q _ hf⟩;exact⟨z,us,r,⟨_,Î _ rfl,rfl,_,rfl⟩⟩
theorem p81(h:PA X es t):PE X (.List es pos) (L42 t):=by
 intro pins s σ H Q I hq;refine wpAny_List_spliced (thn (h pos pins s σ H _ I hq) λus s1 ⟨xs,H1,I1,r,z,q⟩=>⟨by rw[← r.length];exact z,?_⟩)
 have hf:H1 s1.heap.objs.size=none:=I1.hok.fresh (Ë _);refine⟨.ref s1.heap.objs.size,upd H1 s1.heap.objs.size (.lst xs),I1.laid (t':=s1.toks) (λb u e=>Ä _ e) (Ë _) ?_,rfl,q _ hf⟩;exact⟨z,us,0,r,Î _ rfl⟩
end
abbrev Sp:=List V->Hp->VK->XK->Prop
abbrev CXT:=List Env->Hp->Å->XK->Ã->Å->Prop
structure T31(P:Program)(w:World)(K:PySem.W.Frag)(mg:Str->Option Value)(base:Heap)(A:Around)(outer:List Env)(s:Shared)(H:Hp):Prop where
 frames:A.frames=some outer
 mod:Mod K mg base
 bs:∀ b o,base.get? b=some o->s.heap.get? b=some o/\H b=none
 bsz:base.objs.size<=s.heap.objs.size
 k51:s.heap.FunFrames base outer
 frf:∀ b∈frs outer,H b=none
 hok:HOk P w H s.heap
 bare:AllBare s.gens
def CE(outer:List Env)(P:Ü)(w:ì)(H:Hp)(s:Å)(Q:VK)(u:Ã)(s':Å):Prop :=
 ∃ v H',s'.os=s.os/\Ñ6 s'.gens/\Un (frs outer) [] H H' s.heap s'.heap/\HOk P w H' s'.heap/\RelV v u/\Q v H'
def CR(CX:CXT)(outer:List Env)(P:Ü)(w:ì)(H:Hp)(s:Å)(Q:VK)(E:XK)(r:Result)(s':Å):Prop :=
 match r with
 |.ok (.ret u)=>CE outer P w H s Q u s'|.ok _=>False|.error e=>CX outer H s E e s'
structure P40(P:Program)(w:World)(K:PySem.W.Frag)(mg:Str->Option Value)(base:Heap)(CX:CXT)(k:Nat)(f:Addr)(fd:FuncData)(ps:List Str)(sp:Sp):Prop where
 len:∀ vs H Q E,sp vs H Q E->vs.length=ps.length
 run:∀ (A:Around) (outer:List Env) (s:Shared) (H:Hp) (args:Args) (us:List Value) (vs:List V) (Q:VK) (E:XK),z30 k A->T31 P w K mg base A outer s H->BindsTo s fd args (ps.zip us)->Vals vs us->sp vs H Q E ->
  codeAny (model P w) A (.call (.ref f) args) (CR CX outer P w H s Q E) s
section
variable {X:Cx}{pins:List (Æ × Obj)}{σ:St}{H:Hp}{s s':Å}
theorem Inv.x62(I:Inv X pins σ H s):T31 X.prog X.w X.K X.mg X.base X.A X.stack s H :=
 ⟨I.ok.frames,I.ok.mod,I.bs,Þ I.ok.bsz I.sz,I.stack,I.x10,I.hok,I.bare⟩
theorem Inv.after{Q:VK}{u:Ã}(I:Inv X pins σ H s)(h:CE X.stack X.prog X.w H s Q u s'):EP X pins σ Q u s':=by
 obtain⟨v,H',os,bare,un,hok,r,q⟩:=h;obtain⟨hh,g,d,t,os'⟩:=s';obtain rfl:os'=s.os:=os;exact⟨v,H',I.call (h':=hh) (g':=g) (d':=d) (t':=t) (ch:=[]) un hok bare (λb z=>absurd z (by simp)),r,q⟩
end
def i52(sp:Sp)(dvs:List V)(E:XK)(t:TA):TE:=λσ H Q=>t σ H λvs H1=>sp (vs++dvs) H1 Q E
def Binds(K:Â)(fd:Ä0)(ps:List Str)(ds:List Ã):Prop :=
 ∀ (s:Å) (us:List Ã),K.In s.heap->(us++ds).length=ps.length->BindsTo s fd ⟨us,[]⟩ (ps.zip (us++ds))
theorem Binds.all{K:Â}{fd:Ä0}{ps:List Str}(h:∀ us:List Ã,us.length=ps.length->bindArgs fd ⟨us,[]⟩=pure (ps.zip us)):Binds K fd ps []:=λs us _ hl=>by
 rw[É2] at hl ⊢;exact .of_eq (h us hl)
def Passes(CX:CXT)(X:Cx)(E:XK):Prop:=∀ (pins:List (Æ × Obj)) (σ:St) (H:Hp) (s:Å) (e:Ã) (s':Å),Inv X pins σ H s->CX X.stack H s E e s'->X.xe e s'
section
variable {X:Cx}{CX:CXT}{k:Nat}{f C:Æ}{fd:Ä0}{ps:List Str}{sp:Sp}{dvs:List V}{ds:List Ã}{E:XK}{x m:Str}{p pos apos:Pos}{e o:Ï}{es:List Ï}{ta:TE}{t:TA}
theorem O61{pins:List (Æ × Obj)}{σ:St}{H:Hp}{s:Å}{Q:VK}{us:List Ã}{vs:List V}(F:P40 X.prog X.w X.K X.mg X.base CX k f fd ps sp)(hr:z30 k X.A)(hb:Binds X.K fd ps ds)(hd:Vals dvs ds)(hx:Passes CX X E)
  (I:Inv X pins σ H s) (r:Vals vs us) (h:sp (vs++dvs) H Q E):Ñ (Ö X.prog X.w) X.A (call (.ref f) us) (EP X pins σ Q) X.xe s:=by
 have r2:Vals (vs++dvs) (us++ds):=r.append hd;have hl:(us++ds).length=ps.length:=by rw[← r2.length];exact F.len _ _ _ _ h
 refine Ø6 (Ë0 (F.run X.A X.stack s H ⟨us,[]⟩ (us++ds) (vs++dvs) Q E hr I.x62 (hb s us I.kIn hl) r2 h) λr s' hq=>?_);cases r with
 |error e=>exact hx pins σ H s e s' I hq
 |ok fl =>
  cases fl with
  |ret u=>exact I.after hq|next=>exact ý hq
  |brk=>exact ý hq|cont=>exact ý hq
theorem T41(F:P40 X.prog X.w X.K X.mg X.base CX k f fd ps sp)(hr:z30 k X.A)(hg:Gl X x)(hm:X.mg x=some (.ref f))(hk:Ì1 X.K (.ref f)=true)(hb:Binds X.K fd ps ds)(hd:Vals dvs ds)(hx:Passes CX X E)
  (ha:PA X (e::es) t) (hdb:(x == ("__debug__":Str))=false:=by decide) (he:ó (e::es) X.env=(false,eval e X.env)::ó es X.env:=by rfl) (hpl:(Ñ9 pos (ó es X.env)).any (·.1)=false:=by rfl) :
  PE X (.Call (.Name x p) (e::es) [] pos) (i52 sp dvs E t):=by
 intro pins s σ H Q I h;refine Æ6 (I70 I hg hm ?_ hdb);refine callWith_K (h₀:=X.base) I.ok.mod.kin hk (thn (ha pos pins s σ H _ I h) λus s1 ⟨vs,H1,I1,r,q⟩=>⟨I1.kIn,?_⟩) he hpl;exact O61 F hr hb hd hx I1 r q
end
structure k00(N P:List Str)(sc:Scope):Prop where
 kind:sc.kind=.function
 co:sc.isCoroutine=false
 gen:sc.isGenerator=false
 nd:N.Nodup
 pre:N.take P.length=P
 par:∀ x∈P,sc.names.lookup x=some .local∨sc.names.lookup x=some .cell
 nofree:∀ y∈sc.names,y.2≠.free
theorem P50{kindOf:Str->Option É4}{x:Str}:∀ {binds:List (Str × Ã)}{m:Str->Option Ã},(∀ v,(x,v) ∉ binds)->bindL kindOf binds m x=m x
 |[],_,_=>rfl
 |(n,v)::r,m,h=>by
  unfold bindL;rw[P50 λw hw=>h w (É _ hw)];split
  ·have:x≠n:=by rintro rfl;exact h v Ê
   simp[this]
  ·rfl
theorem P60{kindOf:Str->Option É4}{x:Str}:∀ {binds:List (Str × Ã)}{m:Str->Option Ã},(∀ v,(x,v) ∉ binds)->bindC kindOf binds m x=m x
 |[],_,_=>rfl
 |(n,v)::r,m,h=>by
  unfold bindC;rw[P60 λw hw=>h w (É _ hw)];split
  ·rfl
  ·have:x≠n:=by rintro rfl;exact h v Ê
   simp[this]
theorem P70{kindOf:Str->Option É4}{x:Str}{v:Ã}:∀ {P:List Str}{vs:List Ã}{i:Nat}{m:Str->Option Ã},P.Nodup->P[i]?=some x->vs[i]?=some v->kindOf x=some .local ->
  bindL kindOf (P.zip vs) m x=some v
 |[],_,_,_,_,h,_,_=>by simp at h|_::_,[],_,_,_,_,h,_=>by simp at h
 |p::P,w::vs,0,m,nd,h1,h2,hk=>by
  simp at h1 h2;subst h1;subst h2;show bindL kindOf ((p,w)::P.zip vs) m p=_;unfold bindL;rw[P50 λv hv=>(Ò2.mp nd).1 (of_mem_zip hv).1,if_pos hk];simp
 |p::P,w::vs,i + 1,m,nd,h1,h2,hk=>by
  show bindL kindOf ((p,w)::P.zip vs) m x=_;unfold bindL;exact P70 (i:=i) (Ò2.mp nd).2 (by simpa using h1) (by simpa using h2) hk
theorem P80{kindOf:Str->Option É4}{x:Str}{v:Ã}:∀ {P:List Str}{vs:List Ã}{i:Nat}{m:Str->Option Ã},P.Nodup->P[i]?=some x->vs[i]?=some v->kindOf x≠some .local ->
  bindC kindOf (P.zip vs) m x=some v
 |[],_,_,_,_,h,_,_=>by simp at h|_::_,[],_,_,_,_,h,_=>by simp at h
 |p::P,w::vs,0,m,nd,h1,h2,hk=>by
  simp at h1 h2;subst h1;subst h2;show bindC kindOf ((p,w)::P.zip vs) m p=_;unfold bindC;rw[P60 λv hv=>(Ò2.mp nd).1 (of_mem_zip hv).1,if_neg hk];simp
 |p::P,w::vs,i + 1,m,nd,h1,h2,hk=>by
  show bindC kindOf ((p,w)::P.zip vs) m x=_;unfold bindC;exact P80 (i:=i) (Ò2.mp nd).2 (by simpa using h1) (by simpa using h2) hk
def start(N:List Str)(vs:List V):St:=vs.map some++é (N.length - vs.length) none
def G20(CX:CXT)(P:Ü)(w:ì)(K:Â)(mg:Str->Option Ã)(base:æ)(N:List Str)(qual:Str)(scope:ú)(f:Æ)(cd:Ã)(A:ö)(outer:List Env)(s:Å)(H:Hp)(E:XK):Cx where
 prog:=P
 w:=w
 K:=K
 mg:=mg
 base:=base
 A:=A.deeper (Í9 qual scope s.heap.objs.size f cd)
 N:=N
 s₀:=s
 H₀:=H
 env:=Í9 qual scope s.heap.objs.size f cd
 outer:=outer
 stack:=Í9 qual scope s.heap.objs.size f cd::outer
 ex:=[]
 calm:=true
 fn:=λ_=>true
 pn:=[]
 xe:=λe s'=>Ñ (Ö P w) (A.deeper (Í9 qual scope s.heap.objs.size f cd)) (leaving (Í9 qual scope s.heap.objs.size f cd) e) (λ_ s''=>CX outer H s E e s'') (λe' s''=>CX outer H s E e' s'') s'
theorem e31{sc:ú}{n:Nat}{x:Str}(h:sc.names.lookup x=some .cell):∃ c,(cellsFrom n sc.names []).lookup x=some c:=by
 have q:=cellsFrom_some sc.names n [] (.inl h);exact Û2.mp q
theorem P90{CX:CXT}{P:Ü}{w:ì}{K:Â}{mg:Str->Option Ã}{base:æ}{N ps:List Str}{qual:Str}{scope:ú}{f:Æ}{cd:Ã}{A:ö}{outer:List Env}{s s1:Å}{H:Hp}{E:XK}{us:List Ã}{vs:List V}
  (S:k00 N ps scope) (hd:A.handled=none) (e0:T31 P w K mg base A outer s H) (hl:vs.length=ps.length) (r:Vals vs us)
  (x:InCallC s s.heap.objs.size (bindL (Í9 qual scope s.heap.objs.size f cd).kindOf (ps.zip us) λ_=>none) (cellsFrom (s.heap.objs.size + 1) scope.names []) (bindC (Í9 qual scope s.heap.objs.size f cd).kindOf (ps.zip us) λ_=>none) s1) :
  Inv (G20 CX P w K mg base N qual scope f cd A outer s H E) [] (start N vs) H s1:=by
 have hpl:ps.length<=N.length:=by have:=congrArg List.length S.pre;rw[Ã4] at this;omega
 obtain⟨h1,tk,rfl,hk⟩:=x.done;have noA:∀ b:Æ,b ∉ (G20 CX P w K mg base N qual scope f cd A outer s H E).ex:=λb z=>absurd (show b∈([]:List Æ) from z) (by simp)
 refine⟨⟨e0.mod,S.kind,rfl,rfl,Ë _,λy z c h1 h2=>?_,λy hy=>?_,λy c _ h=>?_,λ_=>hd,Ý1 e0.frames,.inr ⟨rfl,rfl⟩,λb z=>absurd z (noA b),e0.bs,e0.bsz,λb _ _=>noA b,λb z=>absurd z (noA b),e0.k51,e0.frf⟩,
  rfl,e0.bare,Un.kept hk,⟨_,x.toInCall.ns,λi y v h1 h2 h3=>?_⟩,λy c h=>⟨_,x.cell y c h⟩,e0.hok.fresh (Ë _),λy c h=>?_,λp hp=>absurd (show p∈([]:List (Æ × Obj)) from hp) (by simp),e0.hok.kept hk,?_⟩
 ·exact name_of_addr x.apart (À8 h1) (À8 h2)
 ·have hy:scope.names.lookup y=some .cell∨scope.names.lookup y=some .free:=hy;rcases hy with hy | hy
  ·exact e31 hy
  ·exact absurd rfl (S.nofree _ (À8 hy))
 ·exact Í2 (x.above y c (À8 h))
 ·have hi:i < vs.length:=by
   unfold start at h2;by_cases hi:i < vs.length
   ·exact hi
   ·rw[Ä6 (by simpa using hi)] at h2
    rw[Ð6] at h2;split at h2 <;> cases h2
  have ha:vs[i]?=some v:=by
   unfold start at h2;rw[Î7 (by simpa using hi),Ø] at h2
   cases e:vs[i]? with
   |none=>rw[e] at h2;cases h2
   |some a=>rw[e] at h2;cases h2;rfl
  obtain⟨u,hu,rv⟩:=r.get ha;have hp:ps[i]?=some y:=by
   rw[← S.pre,List.getElem?_take_of_lt ∅];exact h1
  have ndP:ps.Nodup:=by rw[← S.pre];exact S.nd.sublist (List.take_sublist _ _)
  refine⟨u,rv,?_⟩;rcases S.par y (ä hp) with k | k
  ·exact .inl ⟨k,P70 ndP hp hu k⟩
  ·obtain⟨c,e⟩:=e31 (n:=s.heap.objs.size + 1) k;refine .inr ⟨.inl k,c,e,?_⟩;have q:=x.cell y c e;rw[P80 ndP hp hu (by show scope.names.lookup y≠_;rw[k];decide)] at q
   exact q
 ·exact e0.hok.fresh (Í2 (x.above y c (À8 h)))
 ·unfold start;show _=N.length;rw[Â0,È,Ý4];omega
theorem x72{CX:CXT}{P:Ü}{w:ì}{K:Â}{mg:Str->Option Ã}{base:æ}{k:Nat}{f:Æ}{name qual:Str}{params:Ì5}{body:List Ä4}{scope:ú}{dV kV doc pm cdv ct oc:Ã}{an od:Option Æ}
  {osl:Array (Option Ã)}{N ps:List Str}{sp:Sp} (lk:K.lookup f=some ⟨oc,od,.func (fnOf name qual params body scope dV kV doc pm an cdv ct),osl⟩) (hcd:PySem.W.codeIn K cdv qual=true) (S:k00 N ps scope)
  (len:∀ vs H Q E,sp vs H Q E->vs.length=ps.length)
  (hbody:∀ (A:ö) (outer:List Env) (s:Å) (H:Hp) (vs:List V) (Q:VK) (E:XK),z30 k (A.deeper (Í9 qual scope s.heap.objs.size f cdv))->sp vs H Q E ->
   ∃ t,PSs (G20 CX P w K mg base N qual scope f cdv A outer s H E) body t/\t { nx:=λ_ H'=>Q .non H',rt:=Q } (start N vs) H) :
  P40 P w K mg base CX (k + 1) f (fnOf name qual params body scope dV kV doc pm an cdv ct) ps sp:=by
 refine⟨len,λA outer s H args us vs Q E hr e0 hb r hsp=>?_⟩;have hl:=len _ _ _ _ hsp;have KX:K.In s.heap:=e0.mod.kin.keeps λb o e=>(e0.bs b o e).1;have lim:s.heap.NoLimit:=e0.mod.nolimit.keeps λb o e=>(e0.bs b o e).1;have hkind:∀ y∈ps.zip us,scope.names.lookup y.1=some .local∨(scope.names.lookup y.1=some .cell/\((cellsFrom (s.heap.objs.size + 1) scope.names []).lookup y.1).isSome=true):=λ⟨n,v⟩ hy=>by
  rcases S.par n (of_mem_zip hy).1 with q | q
  ·exact .inl q
  ·exact .inr ⟨q,cellsFrom_some _ _ _ (.inl q)⟩
 refine codeAny_call_function hr.depth (KX _ _ lk) rfl S.co S.gen rfl (codeRec_of KX hcd) (hb _ _ _ _ ?_);refine Ý2 S.kind hkind λenv he s1 x=>?_;subst he;refine⟨lim.keeps x.toInCall.keep,codeAny_func ?_⟩;obtain⟨t,ht,hq⟩:=hbody A outer s H vs Q E (hr.deeper _) hsp;have I:Inv (G20 CX P w K mg base N qual scope f cdv A outer s H E) [] (start N vs) H s1:=P90 S hr.hd e0 hl r x;refine Â4 (ht [] s1 (start N vs) H _ I hq) (λfl s' hs=>?_) λe s' hs=>hs;have fin:∀ {σ':St}{H':Hp}{v:V}{u:Ã},Inv (G20 CX P w K mg base N qual scope f cdv A outer s H E) [] σ' H' s'->RelV v u->Q v H'->CE outer P w H s Q u s' :=
  λ{σ' H' v u} J rv q=>⟨v,H',J.os,J.bare,J.base,J.hok,rv,q⟩
 cases fl with
 |ret u =>
  obtain⟨v,σ',H',J,rv,q⟩:=hs;exact fin J rv q
 |next =>
  obtain⟨σ',H',J,q⟩:=hs;exact fin (v:=V.non) (u:=â) J rfl q
 |brk =>
  obtain⟨_,_,_,q⟩:=hs;exact ý q
 |cont =>
  obtain⟨_,_,_,q⟩:=hs;exact ý q
section
variable {X:Cx}{x:Str}{p pos:Pos}{e:Ï}{es:List Ï}{t:TA}{id T:String}{r:List V->Hp->VK->Prop}
def tCB(r:List V->Hp->VK->Prop)(t:TA):TE:=λσ H Q=>t σ H λvs H1=>r vs H1 Q
theorem B70(hc:f50 X (.builtin id) r)(hg:Gl X x)(hm:X.mg x=none)(hv:è x=some (.builtin id))(ha:PA X (e::es) t)(hn:x≠"__name__":=by decide)(hdb:(x == ("__debug__":Str))=false:=by decide)
  (he:ó (e::es) X.env=(false,eval e X.env)::ó es X.env:=by rfl) (hpl:(Ñ9 pos (ó es X.env)).any (·.1)=false:=by rfl):PE X (.Call (.Name x p) (e::es) [] pos) (tCB r t):=by
 intro pins s σ H Q I h;refine Æ6 (u30 I hg hm hv ?_ hn hdb);exact PyProof.Rows.callWith_builtin1 (thn (ha pos pins s σ H _ I h) λus s1 ⟨vs,H1,I1,r1,q1⟩=>hc pins s1 σ H1 vs us Q I1 r1 q1) he hpl
theorem p91(hc:f50 X (.type T) r)(hg:Gl X x)(hm:X.mg x=none)(hv:è x=some (.type T))(ha:PA X (e::es) t)(hn:x≠"__name__":=by decide)(hdb:(x == ("__debug__":Str))=false:=by decide)
  (he:ó (e::es) X.env=(false,eval e X.env)::ó es X.env:=by rfl) (hpl:(Ñ9 pos (ó es X.env)).any (·.1)=false:=by rfl):PE X (.Call (.Name x p) (e::es) [] pos) (tCB r t):=by
 intro pins s σ H Q I h;refine Æ6 (u30 I hg hm hv ?_ hn hdb);exact À0 (thn (ha pos pins s σ H _ I h) λus s1 ⟨vs,H1,I1,r1,q1⟩=>hc pins s1 σ H1 vs us Q I1 r1 q1) he hpl
end
end L2
namespace HT
open PySem PyProof.Rows
theorem E51(A:ö)(s:Å)(a:Int)(t:Tok)(c:Int)(u:Tok):∃ e,Ô5 A s (.int a t) (.int c u) e/\(e=true↔a=c) :=
 ⟨(a == c),Ô5.int_int a t c u,by simp⟩
theorem e41(A:ö)(s:Å)(a:Int)(t:Tok)(c:Int)(u:Tok)(prog:Ü)(w:ì)(E:Ã->Å->Prop)(Q:Ã->Å->Prop)(h:Q (.bool (decide (a < c))) s) :
  Ñ (Ö prog w) A (richCompare .Lt (.int a t) (.int c u)) Q E s :=
 (lt_int h:Ñ (Ö prog w) A (ø .Lt (.int a t) (.int c u)) Q E s)
section
variable {prog:Ü}{w:ì}{A:ö}{E:Ã->Å->Prop}{s:Å}
theorem T51{t b:Æ}{vs ws:List Ã}{Q:Ã->Å->Prop}(ht:Í3 s.heap t vs.toArray)(hb:Í3 s.heap b ws.toArray)(hv:vs≠[])
  (h1:ws=[]->Q (.ref t) s) (h2:ws≠[]->Q (.ref s.heap.objs.size) { s with heap:=s.heap.push { cls:=.type "tuple",data:=.seq (vs++ws).toArray } })
  (hsz:vs.length + ws.length<=sizeLine):Ñ (Ö prog w) A (Ã1 .Add (.ref t) (.ref b)) Q E s:=by
 obtain⟨⟨cls,dd,data,sl⟩,ho,hc,n,hd⟩:=id ht;obtain⟨⟨cls2,dd2,data2,sl2⟩,ho2,hc2,n2,hd2⟩:=id hb;simp only at hc hd hc2 hd2;subst hc hd hc2 hd2;have e:vs.toArray++ws.toArray=(vs++ws).toArray:=by simp
 by_cases hw:ws=[]
 ·exact concat_meets ⟨_,ho,rfl⟩ ⟨_,ho2,rfl⟩ Û6 seq_tuple_add Ð1 Ï3 (Î0 _ _)
   (tuple_addW1 t b vs.toArray ws.toArray n n2 dd dd2 sl sl2 (by simpa using hv) (by simp[hw])) ⟨ho,ho2,h1 hw⟩
 ·refine concat_meets ⟨_,ho,rfl⟩ ⟨_,ho2,rfl⟩ Û6 seq_tuple_add Ð1 Ï3 (Î0 _ _)
   (tuple_addW2 t b vs.toArray ws.toArray n n2 dd dd2 sl sl2 (by simpa using hv) (by simpa using hw) (by rw[Õ,Õ];exact hsz)) ⟨ho,ho2,?_⟩
  rw[e];exact h2 hw
def sIx(n d:Nat):Option Int->Nat
 |none=>d|some v=>if v < 0 then(v + (n:Int)).toNat else min v.toNat n
theorem q01(n d k:Nat):sIx n d (some (k:Int))=min k n:=by
 show(if (k:Int) < 0 then((k:Int) + (n:Int)).toNat else min (k:Int).toNat n)=min k n;rw[if_neg ∅,Ã2]
theorem i62(n d:Nat)(hd:d<=n)(o:Option Int):sIx n d o<=n:=by
 cases o with
 |none=>exact hd
 |some v =>
  show(if v < 0 then(v + (n:Int)).toNat else min v.toNat n)<=n;by_cases hv:v < 0
  ·rw[if_pos hv];omega
  ·rw[if_neg hv];exact Nat.min_le_right _ _
theorem q11(v:Int)(n d:Nat):(if v < 0 then max (v + (n:Int)) 0 else min v (n:Int))=((sIx n d (some v):Nat):Int):=by
 show(if v < 0 then max (v + (n:Int)) 0 else min v (n:Int))=(((if v < 0 then(v + (n:Int)).toNat else min v.toNat n):Nat):Int);by_cases hv:v < 0
 ·simp only[if_pos hv];omega
 ·simp only[if_neg hv];omega
theorem k81(lo hi:Option Int)(n:Nat):Ë7 lo hi 1 (n:Int)=(((sIx n 0 lo:Nat):Int),((sIx n n hi:Nat):Int)):=by
 have h1:¬ ((1:Int) < 0):=by omega
 unfold Ë7;simp only[h1,if_false];refine Prod.ext ?_ ?_
 ·cases lo with
  |none=>rfl|some v=>exact q11 v n 0
 ·cases hi with
  |none=>rfl|some v=>exact q11 v n n
theorem k91(i j:Nat):Ç5 (i:Int) (j:Int) 1=j - i:=by
 unfold Ç5;have h1:(1:Int) > 0:=by omega
 simp only[h1,if_true,Int.ediv_one];split <;> omega
theorem G90{v:Ã}{o:Option Int}{Q:Option Int->Å->Prop}(p:Õ7 v o)(h:Q o s):Ñ (Ö prog w) A (Ä3.Slice.slicePartIndex v) Q E s:=by
 cases p with
 |none=>exact Õ3 h|int i t=>exact slicePart_int h
theorem n20{sl:Æ}{vl vu:Ã}{lo hi:Option Int}{n:Nat}{Q:Int × Int × Nat->Å->Prop}(hs:s.heap.IsSliceOf sl vl vu .none)(pl:Õ7 vl lo)(pu:Õ7 vu hi)
  (h:Q (((sIx n 0 lo:Nat):Int),1,sIx n n hi - sIx n 0 lo) s):Ñ (Ö prog w) A (Ò5 (.ref sl) (pure (n:Int))) Q E s:=by
 obtain⟨os,hos,hcs,hds⟩:=id hs;unfold Ò5 sliceFields;refine À (À (À4 hos hds (x:=vl) rfl (À (À4 hos hds (x:=vu) rfl (À (À4 hos hds (x:=.none) rfl (Ç ?_)))))));refine À (Õ3 ?_);show Ñ _ _ (if ((1:Int) == 0)=true then _ else _) _ _ s;rw[if_neg (-0)]
 refine À (G90 pl (À (G90 pu (À (Ç ?_)))));show Ñ _ _ (match Ë7 lo hi 1 (n:Int) with | (lo,hi)=>pure (lo,(1:Int),Ç5 lo hi 1)) _ _ s
 rw[k81 lo hi n];show Ñ _ _ (pure (((sIx n 0 lo:Nat):Int),(1:Int),Ç5 ((sIx n 0 lo:Nat):Int) ((sIx n n hi:Nat):Int) 1)) _ _ s;rw[k91];exact Ç h
theorem E61(xs:Array Ã)(i k:Nat):((î k).filterMap λ(m:Nat)=>xs[((i:Int) + (m:Int) * 1).toNat]?).toArray=((xs.toList.drop i).take k).toArray:=by
 have e:(λ(m:Nat)=>xs[((i:Int) + (m:Int) * 1).toNat]?)=λm=>xs[i + m]?:=by
  funext m
  have:((i:Int) + (m:Int) * 1).toNat=i + m:=by omega
  rw[this]
 rw[e];have:=pick_run xs i k;rw[List.filterMap_map] at this;have e2:((λx=>xs[x]?) ∘ λx=>i + x)=λm=>xs[i + m]?:=rfl;rw[e2] at this;rw[this]
theorem x20{t sl:Æ}{items:Array Ã}{vl vu:Ã}{lo hi:Option Int}{Q:Ã->Å->Prop}(ht:Í3 s.heap t items)(hs:s.heap.IsSliceOf sl vl vu .none)(pl:Õ7 vl lo)(pu:Õ7 vu hi)
  (hw:¬ (sIx items.size 0 lo=0/\sIx items.size items.size hi=items.size))
  (h:Q (.ref s.heap.objs.size) { s with heap:=s.heap.push { cls:=.type "tuple",data:=.seq ((items.toList.drop (sIx items.size 0 lo)).take (sIx items.size items.size hi - sIx items.size 0 lo)).toArray } })
  (hsz:items.size<=sizeLine):Ñ (Ö prog w) A (Ñ1 (.ref t) (.ref sl)) Q E s:=by
 have htake:sizeOk (.seq ((items.toList.drop (sIx items.size 0 lo)).take (sIx items.size items.size hi - sIx items.size 0 lo)).toArray):=by
  show((items.toList.drop (sIx items.size 0 lo)).take (sIx items.size items.size hi - sIx items.size 0 lo)).toArray.size<=sizeLine;rw[Õ,Ã4,Å2,È6];omega
 have hj:sIx items.size items.size hi<=items.size:=i62 _ _ (Ë _) hi;obtain⟨os,hos,hcs,hds⟩:=id hs;have hTs:s.TypeIs (.ref sl) "slice":=⟨os,hos,hcs⟩;unfold Ñ1
 try with_reducible refine Ã7 ?_
 first | refine À (Ç ?_) | skip
 refine À (Ú0 ht.typeIs (-0) ?_)
 refine À (Á8 (name:=À6 "__getitem__") ht.typeIs ï
  (Ä7 ï ht.typeIs entry_tuple_getitem ?_ (Ø9 _ _)))
 show Ñ _ _ (tupleItemsOf (.ref t) >>= _) _ _ s;refine À (tupleItemsOf_ ht ?_);refine À (Ê9 hTs ?_);rw[if_pos (-0)]
 refine À (n20 hs pl pu ?_);have hno:¬ ((((sIx items.size 0 lo:Nat):Int) == 0&&(1:Int) == 1&&(sIx items.size items.size hi - sIx items.size 0 lo) == items.size)=true):=by
  intro q;rw[Á,Á] at q;have q1:((sIx items.size 0 lo:Nat):Int)=0:=eq_of_beq q.1.1;have q2:sIx items.size items.size hi - sIx items.size 0 lo=items.size:=eq_of_beq q.2;exact hw ⟨by omega,by omega⟩
 show Ñ _ _ (if (((sIx items.size 0 lo:Nat):Int) == 0&&(1:Int) == 1&&(sIx items.size items.size hi - sIx items.size 0 lo) == items.size)=true then _ else _) _ _ s;rw[if_neg hno,E61]
 first
  |exact À (m:=Å4 _) (ò (Ç ⟨_,rfl,Ç h⟩) htake)
  |exact À (m:=Å4 _) (ò (À (Ç (Ç ⟨_,rfl,Ç h⟩))) htake)
  |exact À (À (m:=Å4 _) (ò (Ç (Ç ⟨_,rfl,Ç h⟩)) htake))
  |exact À (À (m:=Å4 _) (ò (Ç ⟨_,rfl,Ç h⟩) htake))
end
end HT
namespace L2
open PySem PySem.Spec PyProof.Rows
abbrev TO:=St->Hp->(Option Int->Hp->Prop)->Prop
def PO(X:Cx)(e:Option Ï)(t:TO):Prop :=
 ∀ (pins:List (Æ × Obj)) (s:Å) (σ:St) (H:Hp) (Q:Option Int->Hp->Prop),Inv X pins σ H s->t σ H Q ->
  Ñ (Ö X.prog X.w) X.A (evalPart e X.env) (λu s'=>∃ o H',Inv X pins σ H' s'/\Õ7 u o/\Q o H') X.xe s
def T61:TO:=λ_ H Q=>Q none H
def x82(t:TE):TO:=λσ H Q=>t σ H λx H1=>∃ i,x=.int i/\Q (some i) H1
theorem intsAre_of{ns:List Int}:∀ {us:List Ã},Vals (ns.map V.int) us->É7 us ns:=by
 induction ns with
 |nil=>intro us r;rw[map_nil] at r;cases r;exact .nil
 |cons n ns ih =>
  intro us r;rw[Å1] at r;cases r with
  |cons r1 r2 =>
   obtain⟨t,e⟩:=r1;subst e;exact .cons n t (ih r2)
section
variable {X:Cx}{e:Ï}{te:TE}{lo hi:Option Ï}{tl th:TO}{pos p2:Pos}
theorem T71:PO X none T61:=by
 intro pins s σ H Q I h;rw[evalPart_none];exact Ç ⟨none,H,I,.none,h⟩
theorem T81(h:PE X e te):PO X (some e) (x82 te):=by
 intro pins s σ H Q I hw;rw[evalPart_some];refine thn (h pins s σ H _ I hw) λu s1 ⟨x,H1,I1,r1,q1⟩=>?_;obtain⟨i,rfl,q⟩:=q1;obtain⟨t,rfl⟩:=r1;exact⟨some i,H1,I1,.int i t,q⟩
def SlR(X:Cx)(r:V->Option Int->Option Int->Hp->VK->Prop):Prop :=
 ∀ (pins:List (Æ × Obj)) (s:Å) (σ:St) (H:Hp) (x:V) (v vl vu:Ã) (lo hi:Option Int) (sl:Æ) (Q:VK),Inv X pins σ H s->RelV x v->s.heap.IsSliceOf sl vl vu .none->Õ7 vl lo->Õ7 vu hi->r x lo hi H Q ->
  ∃ T id,typeLookup (.type T) "__getitem__"=pure (some (.builtin id))/\s.TypeIs v T/\Ñ (Ö X.prog X.w) X.A (Ñ1 v (.ref sl)) (EP X pins σ Q) X.xe s
def tSl(r:V->Option Int->Option Int->Hp->VK->Prop)(te:TE)(tl th:TO):TE:=λσ H Q=>te σ H λx H1=>tl σ H1 λl H2=>th σ H2 λu H3=>r x l u H3 Q
theorem E71{r:V->Option Int->Option Int->Hp->VK->Prop}(hr:SlR X r)(he:PE X e te)(hl:PO X lo tl)(hu:PO X hi th):PE X (.Subscript e (.Slice lo hi none p2) pos) (tSl r te tl th):=by
 intro pins s σ H Q I h;refine Subscript_ (thn (he pins s σ H _ I h) λv s1 ⟨x,H1,I1,r1,q1⟩=>?_);refine wpAny_Slice (thn (hl pins s1 σ H1 _ I1 q1) λvl s2 ⟨l,H2,I2,pl,q2⟩=>thn (hu pins s2 σ H2 _ I2 q2) λvu s3 ⟨u,H3,I3,pu,q3⟩=>?_);rw[evalPart_none];refine Ç ?_;have I4:Inv X pins σ H3 { s3 with heap:=s3.heap.push { cls:=.type "slice",data:=.fields #[vl,vu,.none] } }:=I3.kept (t':=s3.toks) λb ob q=>Ä _ q;obtain⟨T,id,hT,ht,hg⟩:=hr pins { s3 with heap:=s3.heap.push { cls:=.type "slice",data:=.fields #[vl,vu,.none] } } σ H3 x v vl vu l u s3.heap.objs.size Q I4 r1 (Ð8 ..) pl pu q3;show Ñ (Ö X.prog X.w) X.A (subscriptTail e (.Slice lo hi none p2) v (.ref s3.heap.objs.size)) (EP X pins σ Q) X.xe { s3 with heap:=s3.heap.push { cls:=.type "slice",data:=.fields #[vl,vu,.none] } };exact tail_any (ops:=[.ref s3.heap.objs.size,v]) ht hT hg (by with_unfolding_all rfl)
def E81(xs:List V)(lo hi:Option Int):List V:=(xs.drop (HT.sIx xs.length 0 lo)).take (HT.sIx xs.length xs.length hi - HT.sIx xs.length 0 lo)
theorem C80(xs:List V)(lo hi:Option Int):(E81 xs lo hi).length<=xs.length:=by
 unfold E81;rw[Ã4,Å2];omega
theorem Vals.J10{xs:List V}{us:List Ã}(r:Vals xs us):us=[]↔xs=[]:=by
 cases r with
 |nil=>simp|cons _ _=>simp
end
def ixN(n:Nat)(i:Int):Option Nat:=if 0<=i then(if i < n then some i.toNat else none) else if -(n:Int)<=i then some (i + n).toNat else none
def atI{α:Type}(xs:List α)(i:Int):Option α:=(ixN xs.length i).bind λj=>xs[j]?
theorem q21{n:Nat}{i:Int}{j:Nat}(h:ixN n i=some j):seqIndex? i n=some j/\j < n/\-(n:Int)<=i/\i < n:=by
 unfold ixN at h;by_cases h0:0<=i
 ·rw[if_pos h0] at h;by_cases h1:i < n
  ·rw[if_pos h1] at h;have e:i.toNat=j:=À9 h;exact⟨by rw[Ü4 h0 h1,e],by omega,by omega,h1⟩
  ·rw[if_neg h1] at h;cases h
 ·rw[if_neg h0] at h;by_cases h1:-(n:Int)<=i
  ·rw[if_pos h1] at h;have e:(i + n).toNat=j:=À9 h;exact⟨by rw[seqIndex_neg ∅ h1,e],by omega,h1,by omega⟩
  ·rw[if_neg h1] at h;cases h
theorem q31{α:Type}{xs:List α}{i:Int}{v:α}(h:atI xs i=some v):∃ j,seqIndex? i xs.length=some j/\xs[j]?=some v/\j < xs.length/\-(xs.length:Int)<=i/\i < xs.length:=by
 unfold atI at h;cases e:ixN xs.length i with
 |none=>rw[e] at h;cases h
 |some j =>
  rw[e] at h;obtain⟨h1,h2,h3,h4⟩:=q21 e;exact⟨j,h1,h,h2,h3,h4⟩
theorem J20{α:Type}{xs:List α}{j:Nat}{v:α}(h:xs[j]?=some v):atI xs (j:Int)=some v:=by
 have hj:j < xs.length:=(Ú.mp h).1;have e:ixN xs.length (j:Int)=some j:=by
  unfold ixN;rw[if_pos ∅,if_pos ∅];simp
 unfold atI;rw[e];exact h
def q41(b:Ï):Prop:=∀ o i,subscripted b false o i=operate [o,i] (Ñ1 o i)
def IxR(X:Cx)(r:R2):Prop :=
 ∀ (value slice:Ï) (pins:List (Æ × Obj)) (s:Å) (σ:St) (H:Hp) (x y:V) (v u:Ã) (Q:VK),Inv X pins σ H s->RelV x v->RelV y u->r x y H Q ->
  subscripted slice false v u=operate [v,u] (Ñ1 v u)->Ñ (Ö X.prog X.w) X.A (subscriptTail value slice v u) (EP X pins σ Q) X.xe s
def MtR(X:Cx)(id:String)(r:V->List V->Hp->VK->Prop):Prop :=
 ∀ (pins:List (Æ × Obj)) (s:Å) (σ:St) (H:Hp) (x:V) (xs:List V) (v:Ã) (us:List Ã) (Q:VK),Inv X pins σ H s->RelV x v->Vals xs us->r x xs H Q ->
  Ñ (Ö X.prog X.w) X.A (call (.builtin id) (v::us)) (EP X pins σ Q) X.xe s
section
variable {X:Cx}{a b:Ï}{ta tb:TE}{pos:Pos}
theorem T91{r:R2}(hr:IxR X r)(ha:PE X a ta)(hb:PE X b tb)(hs:q41 b):PE X (.Subscript a b pos) (tOp r ta tb):=by
 intro pins s σ H Q I h;exact Subscript_ (w82 ha hb I h λv u s2 x y H2 I2 rx ry q=>hr a b pins s2 σ H2 x y v u Q I2 rx ry q (hs _ _))
def H52(K:Â):R2:=λx y H Q=>∃ p xs i v,x=.ref p/\y=.int i/\SqL K H p xs/\atI xs i=some v/\Q v H
def L52(K:Â):R2:=λx y H Q=>∃ p xs i v,x=.ref p/\y=.int i/\SqT K H p xs/\atI xs i=some v/\Q v H
theorem X80:IxR X (H52 X.K):=by
 intro value slice pins s σ H x y v u Q I rx ry h hs;obtain⟨p,xs,i,z,rfl,rfl,hq,he,q⟩:=h;cases rx;obtain⟨t,rfl⟩:=ry;obtain⟨its,r,pl,hz⟩:=I.list hq;obtain⟨j,h1,h2,h3,h4,h5⟩:=q31 he;obtain⟨w,ew,rw'⟩:=r.get h2;have hl:=r.length;have hn:=e21;have fin:EP X pins σ Q w s:=⟨z,H,I,rw',q⟩;by_cases h0:0<=i
 ·have hj:i.toNat=j:=by
   rw[Ü4 h0 h5] at h1;exact À9 h1
  exact item_listR pl.isList h0 ∅ (by rw[hj];simpa using ew) fin hs
 ·have hj:(i + (its.toArray.size:Int)).toNat=j:=by
   rw[seqIndex_neg ∅ h4] at h1
   rw[Õ,← hl];exact À9 h1
  exact subscriptTail_builtinR (x:=w) pl.isList.typeIs slot_list_getitem.lookup
   (wpAny_getItem_list_neg (Q:=λr s'=>r=w/\EP X pins σ Q r s') pl.isList ∅ (by rw[Õ] <;> omega) ∅ (by rw[hj];simpa using ew) ⟨rfl,fin⟩) hs
theorem i72:IxR X (L52 X.K):=by
 intro value slice pins s σ H x y v u Q I rx ry h hs;obtain⟨p,xs,i,z,rfl,rfl,hq,he,q⟩:=h;cases rx;obtain⟨t,rfl⟩:=ry;obtain⟨its,r,pl,hz⟩:=I.tuple hq;obtain⟨j,h1,h2,h3,h4,h5⟩:=q31 he;obtain⟨w,ew,rw'⟩:=r.get h2;have hl:=r.length;have hn:=e21;have fin:EP X pins σ Q w s:=⟨z,H,I,rw',q⟩;exact subscriptTail_builtinR (x:=w) pl.typeIs slot_tuple_getitem.lookup
  (getItem_tuple (j:=j) (Q:=λr s'=>r=w/\EP X pins σ Q r s') pl ∅ ∅ (by rw[Õ,← hl];exact h1) (by simpa using ew) ⟨rfl,fin⟩) hs
theorem l01(its:List Ã)(n j:Nat)(u:Ã):À5 (·.setIfInBounds j u) { cls:=.type "list",data:=.seq its.toArray n }={ cls:=.type "list",data:=.seq (its.set j u).toArray n }:=by
 simp[À5]
theorem Inv.lst{pins:List (Æ × Obj)}{σ:St}{H:Hp}{s:Å}{p:Æ}{xs:List V}(I:Inv X pins σ H s)(h:H p=some (.lst xs)) :
  ∃ (its:List Ã) (n:Nat),Vals xs its/\s.heap.get? p=some { cls:=.type "list",data:=.seq its.toArray n }/\xs.length<=sizeLine:=by
 obtain⟨z,its,n,r,e⟩:=I.hok p _ h;exact⟨its,n,r,e,z⟩
theorem Inv.i82{pins:List (Æ × Obj)}{σ:St}{H:Hp}{s:Å}{p:Æ}{xs ys:List V}{its its':List Ã}{n n':Nat}{f:Obj->Obj}(I:Inv X pins σ H s)(h:H p=some (.lst xs))
  (ho:s.heap.get? p=some { cls:=.type "list",data:=.seq its.toArray n }) (hf:f { cls:=.type "list",data:=.seq its.toArray n }={ cls:=.type "list",data:=.seq its'.toArray n' }) (r:Vals ys its') (hz:ys.length<=sizeLine) (t:Nat) :
  Inv X pins σ (upd H p (.lst ys)) { s with heap:=s.heap.update p f,toks:=t }:=by
 have e:(s.heap.update p f).get? p=some { cls:=.type "list",data:=.seq its'.toArray n' }:=by
  rw[Ý6 f ho (by rw[hf] <;> rfl),hf]
 refine I.write (x:=p) (e:=p) (by rw[h];trivial) (.inl rfl) (λb u hb q=>(Ý0 _ _ (Â2 hb)).trans q) ⟨_,e⟩ ?_
 exact⟨hz,its',n',r,e⟩
def x92:V->V->V->Hp->(Hp->Prop)->Prop:=λo i v H Q=>∃ p xs k j,o=.ref p/\i=.int k/\H p=some (.lst xs)/\ixN xs.length k=some j/\Q (upd H p (.lst (xs.set j v)))
theorem set_list:w22 X x92:=by
 intro pins s σ H o i v ov iv u Q I ro ri rv h;obtain⟨p,xs,k,j,rfl,rfl,hp,hj,q⟩:=h;cases ro;obtain⟨t,rfl⟩:=ri;obtain⟨its,n,r,ho,hz⟩:=I.lst hp;obtain⟨h1,h2,h3,h4⟩:=q21 hj;have hl:=r.length;have hn:=e21;have I':Inv X pins σ (upd H p (.lst (xs.set j v))) { s with heap:=s.heap.update p (À5 (·.setIfInBounds j u)) } :=
  I.i82 hp ho (l01 its n j u) (r.set rv j) (by rw[Á0];exact hz) s.toks
 by_cases h0:0<=k
 ·have hk:k.toNat=j:=by
   rw[Ü4 h0 h4] at h1;exact À9 h1
  exact PySem.W.ki_setAt ho h0 ∅ (by rw[Õ,← hl];exact h4) (by rw[hk];exact⟨_,I',q⟩)
 ·have hk:(k + (its.toArray.size:Int)).toNat=j:=by
   rw[seqIndex_neg ∅ h3] at h1
   rw[Õ,← hl];exact À9 h1
  exact PySem.W.ki_setBack ho ∅ (by rw[Õ,← hl];exact h3) ∅ (by rw[hk];exact⟨_,I',q⟩)
theorem Q00(lo hi:Option Int)(n:Nat):(Ì8 lo hi none n).1=((HT.sIx n 0 lo:Nat):Int)/\(Ì8 lo hi none n).2.1=((HT.sIx n n hi:Nat):Int)/\(Ì8 lo hi none n).2.2=1:=by
 refine⟨?_,?_,rfl⟩
 ·cases lo with
  |none=>simp[Ì8,HT.sIx]
  |some i =>
   simp only[Ì8,HT.sIx,getD_none,show(1:Int) > 0 by decide,if_true]
   by_cases h:i < 0
   ·simp only[h,if_true] <;> omega
   ·simp only[h,if_false] <;> omega
 ·cases hi with
  |none=>simp[Ì8,HT.sIx]
  |some i =>
   simp only[Ì8,HT.sIx,getD_none,show(1:Int) > 0 by decide,if_true]
   by_cases h:i < 0
   ·simp only[h,if_true] <;> omega
   ·simp only[h,if_false] <;> omega
theorem J30(its:List Ã)(lo hi:Option Int):slicePick its.toArray lo hi none=((its.drop (HT.sIx its.length 0 lo)).take (HT.sIx its.length its.length hi - HT.sIx its.length 0 lo)).toArray:=by
 obtain⟨h1,h2,h3⟩:=Q00 lo hi its.toArray.size;unfold slicePick;rw[h1,h2,h3];simp only[sliceRange_one,pick_run,Õ] <;> rfl
def L62(K:Â):V->Option Int->Option Int->Hp->VK->Prop:=λx lo hi H Q=>∃ a xs,x=.ref a/\SqL K H a xs/\∀ p,H p=none->Q (.ref p) (upd H p (.lst (E81 xs lo hi)))
theorem U01:SlR X (L62 X.K):=by
 intro pins s σ H x v vl vu lo hi sl Q I rx hs pl pu h;obtain⟨a,xs,rfl,hx,q⟩:=h;cases rx;obtain⟨its,r,ht,hz⟩:=I.list hx;have hlen:=r.length;refine⟨"list",_,slot_list_getitem.lookup,ht.isList.typeIs,?_⟩;refine wpAny_getItem_list_slice ht.isList hs pl pu .none (by simp) ?_ (by rw[Õ] <;> omega)
 rw[J30,← hlen];refine⟨.ref s.heap.objs.size,_,I.laid (t':=s.toks) (o:=.lst (E81 xs lo hi)) (λb ob q=>Ä _ q) (Ë _) ?_,rfl,q _ (I.hok.fresh (Ë _))⟩;exact⟨Þ (C80 xs lo hi) hz,_,0,(r.drop (HT.sIx xs.length 0 lo)).take (HT.sIx xs.length xs.length hi - HT.sIx xs.length 0 lo),Î _ rfl⟩
theorem Q10:f50 X (.builtin "len") (λxs H Q=>∃ p ys,xs=[.ref p]/\(SqL X.K H p ys∨SqT X.K H p ys)/\Q (.int ys.length) H):=by
 intro pins s σ H xs us Q I r h;obtain⟨p,ys,rfl,hq,q⟩:=h;obtain⟨u,rfl,rx⟩:=vals1 r;cases rx;have hn:=e21;rcases hq with hq | hq
 ·obtain⟨its,r',pl,hz⟩:=I.list hq;have hlen:=r'.length;exact Calls.call_len_list pl.isList (by simp only[Õ] <;> omega) ⟨.int ys.length,H,I.tok _,⟨s.toks + 1,by rw[Õ,hlen]⟩,q⟩
 ·obtain⟨its,r',pl,hz⟩:=I.tuple hq;have hlen:=r'.length;exact len_tuple pl (by simp only[Õ] <;> omega) ⟨.int ys.length,H,I.tok _,⟨s.toks + 1,by rw[Õ,hlen]⟩,q⟩
theorem Q20:f50 X (.type "list") (λxs H Q=>∃ p ys,xs=[.ref p]/\(SqL X.K H p ys∨SqT X.K H p ys)/\∀ l,H l=none->Q (.ref l) (upd H l (.lst ys))):=by
 intro pins s σ H xs us Q I r h;obtain⟨p,ys,rfl,hq,q⟩:=h;obtain⟨u,rfl,rx⟩:=vals1 r;cases rx;have fin:∀ (its:List Ã),Vals ys its->ys.length<=sizeLine->∀ (h':æ) (c':Nat),(∀ b o',s.heap.get? b=some o'->h'.get? b=some o') ->
   h'.get? s.heap.objs.size=some { cls:=.type "list",dict:=none,data:=.seq its.toArray c',slots:=#[] }->EP X pins σ Q (.ref s.heap.objs.size) { s with heap:=h' }:=λits r' hz h' c' kp e =>
  ⟨.ref s.heap.objs.size,_,I.laid (t':=s.toks) kp (Ë _) (show h50 X.prog X.w _ h' _ (.lst ys) from⟨hz,its,c',r',e⟩),rfl,q _ (I.hok.fresh (Ë _))⟩
 rcases hq with hq | hq
 ·obtain⟨its,r',pl,hz⟩:=I.list hq;have hlen:=r'.length;obtain⟨o,ho,hc,n,hd⟩:=pl.isList;exact call_list_seq p (.inl rfl) ho hc hd (λh' c' kp e=>fin its r' hz h' c' kp e) (by simp only[Õ] <;> omega)
 ·obtain⟨its,r',pl,hz⟩:=I.tuple hq;have hlen:=r'.length;obtain⟨o,ho,hc,n,hd⟩:=pl;exact call_list_seq p (.inr rfl) ho hc hd (λh' c' kp e=>fin its r' hz h' c' kp e) (by simp only[Õ] <;> omega)
theorem J40:f50 X (.type "tuple") (λxs H Q=>∃ p ys,xs=[.ref p]/\((SqL X.K H p ys/\∀ l,H l=none->Q (.ref l) (upd H l (.tup ys)))∨(SqT X.K H p ys/\Q (.ref p) H))):=by
 intro pins s σ H xs us Q I r h;obtain⟨p,ys,rfl,h⟩:=h;obtain⟨u,rfl,rx⟩:=vals1 r;cases rx;rcases h with ⟨hq,q⟩ | ⟨hq,q⟩
 ·obtain⟨its,r',pl,hz⟩:=I.list hq;have hlen:=r'.length;refine call_tuple_list pl.isList (λh' kp=>?_) (by simp only[Õ] <;> omega)
  have I1:Inv X pins σ H { s with heap:=h' }:=I.kept (t':=s.toks) kp;have I2:Inv X pins σ (upd H h'.objs.size (.tup ys)) { s with heap:=h'.push { cls:=.type "tuple",data:=.seq its.toArray } } :=
   I1.laid (t':=s.toks) (λb o e=>Ä _ e) (Ë _) (show h50 X.prog X.w _ _ _ (.tup ys) from⟨hz,its,r',Í3.new _ _⟩)
  exact⟨.ref h'.objs.size,_,I2,rfl,q _ (I1.hok.fresh (Ë _))⟩
 ·obtain⟨its,r',pl,hz⟩:=I.tuple hq;exact call_tuple_same pl ⟨.ref p,H,I,rfl,q⟩
def tyV(K:Â)(T:String)(x:V)(H:Hp):Prop:=match x with
 |.str _=>T="str"|.int _=>T="int"
 |.ref p=>(T="list"/\∃ xs,SqL K H p xs)∨(T="tuple"/\∃ o,K.lookup p=some o/\o.cls=.type "tuple"/\o.dict=none) ∨
   (T="dict"/\((∃ kvs,H p=some (.dK kvs))∨∃ kvs,H p=some (.dT kvs)))∨(T="set"/\∃ S n,H p=some (.set S n))
 |_=>False
theorem i92{pins:List (Æ × Obj)}{σ:St}{H:Hp}{s:Å}{T:String}{x:V}{v:Ã}(I:Inv X pins σ H s)(r:RelV x v)(ty:tyV X.K T x H) :
  s.TypeIs v T/\∀ a,v=.ref a->∃ ob,s.heap.get? a=some ob/\ob.dict=none:=by
 cases x with
 |str z =>
  obtain⟨t,rfl⟩:=r;cases (show T="str" from ty);exact⟨typeIs_str s z t,λ_ e=>nomatch e⟩
 |int i =>
  obtain⟨t,rfl⟩:=r;cases (show T="int" from ty);exact⟨Ø7 s i t,λ_ e=>nomatch e⟩
 |ref p =>
  cases r;rcases ty with ⟨rfl,xs,hq⟩ | ⟨rfl,o,hk,hc,hd⟩ | ⟨rfl,hk⟩ | ⟨rfl,S,n,hk⟩
  ·obtain⟨its,_,pl,_⟩:=I.list hq;refine⟨pl.isList.typeIs,λa e=>?_⟩;cases e;obtain⟨o,n,e,c,hd,_⟩:=pl;exact⟨o,e,hd⟩
  ·refine⟨⟨o,I.kIn p o hk,hc⟩,λa e=>?_⟩;cases e;exact⟨o,I.kIn _ o hk,hd⟩
  ·have z:∃ o,s.heap.get? p=some o/\o.ExactDict:=by
    rcases hk with ⟨kvs,hk⟩ | ⟨kvs,hk⟩
    ·obtain⟨_,_,_,_,o,_,_,e,ex,_⟩:=I.hok p _ hk;exact⟨o,e,ex⟩
    ·obtain⟨_,_,_,_,o,_,_,e,ex,_⟩:=I.hok p _ hk;exact⟨o,e,ex⟩
   obtain⟨o,e,ex⟩:=z;refine⟨⟨o,e,ex.1⟩,λa e2=>?_⟩;cases e2;exact⟨o,e,ex.2.1⟩
  ·obtain⟨o,_,_,_,e,ex,_⟩:=I.hok p _ hk;refine⟨⟨o,e,ex.1⟩,λa e2=>?_⟩;cases e2;exact⟨o,e,ex.2.1⟩
 |_=>exact ý ty
def tBM(K:Â)(T:String)(r:V->List V->Hp->VK->Prop)(to:TE)(t:TA):TE:=λσ H Q=>to σ H λx H1=>tyV K T x H1/\t σ H1 λxs H2=>r x xs H2 Q
variable {o e:Ï}{es:List Ï}{to:TE}{t:TA}{name:Str}{apos cpos:Pos}{T id:String}{r:V->List V->Hp->VK->Prop}
theorem U11(pa:PlainAttrs T)(slot:Slot T name id)(hty:typeOf (.builtin id)=pure (.type "method_descriptor"))(hm:MtR X id r)(ho:PE X o to)(ha:PA X (e::es) t)
  (hbase:attributeBase o name X.env (eval o X.env)=eval o X.env:=by rfl)
  (hfew:((Ñ9 cpos (ó (e::es) X.env)).all (λx=>!x.1)&&(backToKw cpos (keywordEach [] X.env)).all (λx=>x.1.isSome)
   &&decide ((e::es).length + ([]:List Keyword).length + (if ([]:List Keyword).isEmpty then 0 else 1) < 30))=true:=by rfl)
  (hline:(apos.endLine == cpos.line)=true:=by rfl) (hs:ó (e::es) X.env=(false,eval e X.env)::ó es X.env:=by rfl) (hplain:(Ñ9 cpos (ó es X.env)).any (·.1)=false:=by rfl) :
  PE X (.Call (.Attribute o name apos) (e::es) [] cpos) (tBM X.K T r to t):=by
 intro pins s σ H Q I h;refine wpAny_Call_method_late hbase hfew hline rfl (thn (ho pins s σ H _ I h) λv s1 ⟨x,H1,I1,r1,ty,q1⟩=>?_);obtain⟨h1,h2⟩:=i92 I1 r1 ty;refine⟨T,id,pa,slot,hty,h1,h2,?_⟩;have hA:=ha cpos pins s1 σ H1 _ I1 q1;rw[hs] at hA ⊢;refine Calls.callWith_builtin (by show(false || (Ñ9 cpos (ó es X.env)).any (·.1))=false;rw[hplain] <;> rfl) (Ý7 ?_)
 exact thn hA λus s2 ⟨vs,H2,I2,r2,q2⟩=>hm pins s2 σ H2 x vs v us Q I2 r1 r2 q2
end
def MtM(X:Cx)(id:String)(r:V->List V->Hp->VK->Prop):Prop :=
 ∀ (pins:List (Æ × Obj)) (s:Å) (σ:St) (H:Hp) (x:V) (xs:List V) (v:Ã) (us:List Ã) (Q:VK),Inv X pins σ H s->RelV x v->Vals xs us->r x xs H Q ->
  Ñ (Ö X.prog X.w) X.A (call (.builtin id) (v::us)) (EP X pins σ Q) X.xe s
theorem Vals.one:∀ {x:V}{us:List Ã},Vals [x] us->∃ u,us=[u]/\RelV x u
 |_,_,.cons r .nil=>⟨_,rfl,r⟩
theorem Vals.eraseIdx:∀ {xs:List V}{us:List Ã} (i:Nat),Vals xs us->Vals (xs.eraseIdx i) (us.eraseIdx i)
 |_,_,_,.nil=>.nil|_,_,0,.cons _ t=>t|_,_,i + 1,.cons r t=>.cons r (Vals.eraseIdx i t)
theorem Vals.reverse{xs:List V}{us:List Ã}(h:Vals xs us):Vals xs.reverse us.reverse:=by
 induction h with
 |nil=>exact .nil|cons r t ih=>rw[Ò6,Ò6];exact Vals.append ih (.cons r .nil)
theorem Vals.rep{xs:List V}{us:List Ã}(h:Vals xs us):∀ k:Nat,Vals (é k xs).flatten (é k us).flatten
 |0=>.nil
 |k + 1=>by
  rw[Å9,Å9,Ê3,Ê3];exact Vals.append h (Vals.rep h k)
theorem Q30{α:Type}:∀ (l:List α) (i:Nat),(l.eraseIdx i).length<=l.length
 |[],_=>Ë _|_::_,0=>Nat.le_succ _|_::r,i + 1=>Ù1 (Q30 r i)
theorem foldl_rep(its:List Ã):∀ (k:Nat) (acc:List Ã),
  foldl (λx1 x2=>x1++x2) acc.toArray (é k its.toArray)=(acc++(é k its).flatten).toArray
 |0,acc=>by simp
 |k + 1,acc=>by
  have e:acc.toArray++its.toArray=(acc++its).toArray:=by simp
  have e2:(acc++its)++(é k its).flatten=acc++(é (k + 1) its).flatten:=by
   rw[Å9,Ê3,Ê4]
  rw[← e2,← foldl_rep its k (acc++its),← e,Å9,List.foldl_cons]
section
variable {X:Cx}{pins:List (Æ × Obj)}{σ:St}{H:Hp}{s:Å}{l b:Æ}{xs ys zs:List V}
theorem Inv.u12{its its':List Ã}{n:Nat}{f:Array Ã->Array Ã}{t':Nat}(I:Inv X pins σ H s)(hH:H l=some (.lst xs))
  (e:s.heap.get? l=some { cls:=.type "list",data:=.seq its.toArray n }) (hf:f its.toArray=its'.toArray) (hv:Vals ys its') (hz:ys.length<=sizeLine) :
  Inv X pins σ (upd H l (.lst ys)) { s with heap:=s.heap.update l (À5 f),toks:=t' }:=by
 have q:=PySem.IsL.update e f;rw[hf] at q;refine I.write (x:=l) (e:=l) (by rw[hH];exact trivial) (.inl rfl) (λb' u hb hu=>(Ý0 s.heap (À5 f) (Â2 hb)).trans hu) ⟨_,q⟩ ?_
 exact⟨hz,its',_,hv,q⟩
theorem Inv.y02{its:List Ã}{t':Nat}(I:Inv X pins σ H s)(hv:Vals ys its)(hz:ys.length<=sizeLine) :
  Inv X pins σ (upd H s.heap.objs.size (.lst ys)) { s with heap:=s.heap.push { cls:=.type "list",data:=.seq its.toArray },toks:=t' } :=
 I.laid (λ_ _ q=>Ä _ q) (Ë _) ⟨hz,its,0,hv,Î _ rfl⟩
theorem Inv.fresh(I:Inv X pins σ H s):H s.heap.objs.size=none:=I.hok.fresh (Ë _)
theorem Inv.j02(I:Inv X pins σ H s)(hH:H l=some (.lst xs)):xs.length<=sizeLine/\∃ (its:List Ã) (n:Nat),Vals xs its/\xs.length=its.length/\s.heap.get? l=some { cls:=.type "list",data:=.seq its.toArray n }:=by
 obtain⟨z,its,n,r,e⟩:=I.hok l _ hH;exact⟨z,its,n,r,r.length,e⟩
theorem E91{n:Nat}(h:n<=sizeLine):Ë8 n=false:=by
 unfold Ë8;exact decide_eq_false ∅
end
section
variable {X:Cx}
def q51:V->List V->Hp->VK->Prop:=λx vs H Q=>∃ l xs y,x=.ref l/\vs=[y]/\H l=some (.lst xs)/\xs.length < sizeLine/\Q .non (upd H l (.lst (xs++[y])))
theorem Q40:MtM X "list.append" q51:=by
 intro pins s σ H x vs v us Q I rx rv h;obtain⟨l,xs,y,rfl,rfl,hH,hz,q⟩:=h;cases rx;obtain⟨u,rfl,ru⟩:=rv.one;obtain⟨z,its,n,r,hl,e⟩:=I.j02 hH;refine Æ9 F.slot_list_append ⟨_,e,rfl⟩ F.entry_list_append (F.args_list_append_2 _ _) (PySem.list_append l its.toArray n u (by rw[Õ];omega)) ⟨e,?_⟩
 refine⟨.non,_,I.u12 (its':=its++[u]) hH e (by simp) (r.append (.cons ru .nil)) ?_,rfl,q⟩
 rw[Â0,List.length_singleton];omega
def O71:V->List V->Hp->VK->Prop:=λx vs H Q=>∃ l xs i k y,x=.ref l/\vs=[.int i]/\H l=some (.lst xs)/\-(2 ^ 63)<=i/\i < 2 ^ 63/\seqIndex? i xs.length=some k/\xs[k]?=some y/\Q y (upd H l (.lst (xs.eraseIdx k)))
theorem F01:MtM X "list.pop" O71:=by
 intro pins s σ H x vs v us Q I rx rv h;obtain⟨l,xs,i,k,y,rfl,rfl,hH,h1,h2,hk,hy,q⟩:=h;cases rx;obtain⟨u,rfl,ru⟩:=rv.one;obtain⟨t,rfl⟩:=ru;obtain⟨z,its,n,r,hl,e⟩:=I.j02 hH;obtain⟨w,hw,rw'⟩:=r.get hy;refine Æ9 F.slot_list_pop ⟨_,e,rfl⟩ F.entry_list_pop (F.args_list_pop_2 _ _)
  (MeetsSeq.list_pop_at l its.toArray n i t k w (fitsIndex_both h1 h2) (by rw[Õ,← hl];exact hk) (by rw[← û];exact hw) (by rw[Õ];omega)) ⟨e,?_⟩
 refine⟨y,_,I.u12 (its':=its.eraseIdx k) hH e ?_ (r.eraseIdx k) ?_,rw',q⟩
 ·show its.toArray.eraseIdxIfInBounds k=(its.eraseIdx k).toArray;rw[List.eraseIdxIfInBounds_toArray]
 ·have:=Q30 xs k;omega
def L72:R2:=λx y H Q=>∃ l b xs zs,x=.ref l/\y=.ref b/\H l=some (.lst xs)/\H b=some (.lst zs)/\xs.length + zs.length<=sizeLine/\∀ p,H p=none->Q (.ref p) (upd H p (.lst (xs++zs)))
theorem q61:OpR X (Ã1 .Add) L72:=by
 intro pins s σ H x y v u Q I rx ry h;obtain⟨l,b,xs,zs,rfl,rfl,hH,hB,hz,q⟩:=h;cases rx;cases ry;obtain⟨z,its,n,r,hl,e⟩:=I.j02 hH;obtain⟨z2,its2,n2,r2,hl2,e2⟩:=I.j02 hB;refine PySem.P.add_list e e2 ?_ (by rw[Õ,Õ];omega)
 have ea:its.toArray++its2.toArray=(its++its2).toArray:=by simp
 rw[ea];exact⟨.ref _,_,I.y02 (t':=s.toks) (r.append r2) (by rw[Â0];omega),rfl,q _ I.fresh⟩
theorem len_rep{α:Type}(xs:List α)(k:Nat):(é k xs).flatten.length=k * xs.length:=by
 induction k with
 |zero=>simp|succ k ih=>rw[Å9,Ê3,Â0,ih,Nat.succ_mul,Nat.add_comm]
end
end L2
namespace Att
open PySem PySem.W PySem.Calls PyProof.Rows
theorem C90{P:Params}{h:æ}:∀ (ns:List Int) (vs:List Ã),WellAll P h vs (ns.map WData.int)->É7 vs ns:=by
 intro ns
 induction ns with
 |nil =>
  intro vs w;rw[map_nil] at w;cases w;exact .nil
 |cons n ns ih =>
  intro vs w;rw[Å1] at w;cases w with
  |cons a b =>
   cases a;exact .cons _ _ (ih _ b)
theorem q71{l:OpenLaw}{n:Nat}(hn:l.most=some n){P:Params}{h:æ}{args:List WData}{vals:List Ã}
  (hpre:l.row.toRowW.claim.pre args=true) (hwl:WellAll P h vals args) :
  ∃ a vs ns,vals=[Â8 a]/\args=[WData.list (ns.map WData.int)]/\h.get? a=some { cls:=.type "list",data:=.seq vs.toArray }/\É7 vs ns/\ns.length<=n:=by
 have hsh:WShape.hasAll [] args [.list .int]=true:=(pre_splitW hpre).1;have hc:l.pre.holds [] { args:=args }=true:=(pre_splitW hpre).2;obtain⟨d,r,rfl,h1,h2⟩:=hasAllW_cons hsh;obtain rfl:=hasAllW_nil h2;obtain⟨xs,rfl,h3⟩:=hasW_list h1;obtain⟨ns,rfl⟩:=items_int h3;have hlen:ns.length<=n:=by
  unfold OpenLaw.pre at hc;have h4:(WTm.not (.lt (.lit (.int (n:Int))) (.len (.arg 0)))).holds [] { args:=[.list (ns.map .int)] }=true:=by
   have h4:=(holds_andW hc).1;rw[hn] at h4;exact h4
  have h5:=condW_of h4 (w_not (w_lt w_lit (w_len_list (w_arg rfl))));rw[È] at h5;refine Nat.le_of_not_lt λq=>?_;have q':(n:Int) < ((ns.length:Nat):Int):=by omega
  first
   |(rw[decide_eq_true q'] at h5;exact absurd h5 (-0))
   |(simp at h5;omega)
 cases hwl with
 |cons w1 w2 =>
  cases w2;cases w1 with
  |list ho hall=>exact⟨_,_,ns,rfl,rfl,ho,C90 ns _ hall,hlen⟩
theorem q81(l:OpenLaw)(args:List WData):l.row.toRowW.claim.post args (.bool true) args=true :=
 postW_of (r:=l.row.toRowW) (X:=(true == true))
  (show WShape.has [] (.bool true) .bool=true by first | rfl | decide | simp[WShape.has,WShape.arms,WShape.armsAll])
  (show(WTm.eq .res (.lit (.bool true))).value [] { args:=args,res:=some (.bool true),after:=args }=some (.bool (true == true)) from w_eq_bool (w_res rfl) w_lit) rfl
theorem X90{l:OpenLaw}{n:Nat}{q:Ü}{loose:List Str}{XP:(Str->Option Ã)->æ->Prop}{YP:ì->æ->Prop}{d:DefRec}
  (hn:l.most=some n) (hdf:d.params.defaults=[])
  (call:∀ (w:ì) (s₀ s₁:Å) (mg mb:Str->Option Ã) (fa:Æ) (o:Obj) (pm cd doc:Ã) (a:Æ) (vs:List Ã) (ns:List Int),
   Ground q loose [] XP w s₀ mg mb s₁.heap->YP w s₁.heap ->
   s₁.heap.get? fa=some o->o.data=.func (docDef d.name d.params d.body d.scope pm cd doc)->s₁.heap.CodeRec cd d.name->mg d.name=some (.ref fa) ->
   s₁.heap.get? a=some { cls:=.type "list",data:=.seq vs.toArray }->É7 vs ns->ns.length<=n->s₁.gens=#[] ->
   Ñ2 (Ö l.prog w) Ú2 (.call (.ref fa) ⟨[.ref a],[]⟩) (λr s'=>r=.ok (.ret (.bool true))/\OldK s₁.heap s'.heap/\s'.os=s₁.os/\Ñ6 s'.gens) s₁) :
  WalkO q loose XP YP l.row.toRowW d [] (λf vs=>PySem.call f vs):=by
 intro w s₀ s₁ mg mb G Y fa o pm cd doc dV kV ho hd hcd hD hmg hg args vals as hpre hlay hrd hwl hlo;obtain rfl:dV=.none:=Dflts.none hD hdf;obtain rfl:kV=.none:=Dflts.noKw hD;obtain⟨a,vs,ns,rfl,rfl,hobj,hints,hlen⟩:=q71 hn hpre hwl;refine enter_call (Ë0 (call w s₀ s₁ mg mb fa o pm cd doc a vs ns G Y ho (fd_plain hd) hcd hmg hobj hints hlen hg) λr s' hq=>?_);obtain⟨rfl,h2,h3,h4⟩:=hq;exact⟨.inl ⟨.bool true,.bool true,[],rfl,λ_=>rfl,.bool true,q81 l _,λ_=>⟨Ü5.nil,λ_ hm=>(nomatch hm)⟩⟩,h2,h3,h4⟩
end Att
namespace L2
open PySem PySem.Spec PyProof.Rows
theorem Q50:∀ {vs:List Ã}{ns:List Int},É7 vs ns->Vals (ns.map V.int) vs
 |_,_,.nil=>.nil|_,_,.cons n t h=>.cons ⟨t,rfl⟩ (Q50 h)
def J50(s:Ä4):Arguments:=match s with
 |.FunctionDef _ a _ _ _ _ _ _ _ _=>a|_=>{ posonlyargs:=[],args:=[],vararg:=none,kwonlyargs:=[],kw_defaults:=[],kwarg:=none,defaults:=[] }
def i30(s:Ä4):List Stmt:=match s with
 |.FunctionDef _ _ b _ _ _ _ _ _ _=>b|_=>[]
def b70(s:Ä4):Scope:=match s with
 |.FunctionDef _ _ _ _ _ _ sc _ _ _=>sc|_=>{ kind:=.function,names:=[],isGenerator:=false,isCoroutine:=false }
abbrev CX0:CXT:=λ_ _ _ _ _ _=>False
structure Fun(K:PySem.W.Frag)(x qual:Str)(st:Stmt)(f:Addr)(fd:FuncData):Prop where
 ex:∃ (oc:Value) (od:Option Addr) (kV doc pm:Value) (an:Option Addr) (cdv ct:Value) (osl:Array (Option Value)),
  fd=fnOf x qual (J50 st) (i30 st) (b70 st) .none kV doc pm an cdv ct/\K.lookup f=some ⟨oc,od,.func fd,osl⟩/\PySem.W.codeIn K cdv qual=true
 kp:PySem.W.keepIn K (.ref f)=true
section
variable {P:Ü}{w:ì}{K:Â}{mg:Str->Option Ã}{base:æ}
theorem Fun.binds{x qual:Str}{st:Ä4}{f:Æ}{fd:Ä0}{ps:List Str}(F:Fun K x qual st f fd)
  (h:∀ (kV doc pm:Ã) (an:Option Æ) (cdv ct:Ã) (us:List Ã),us.length=ps.length->bindArgs (fnOf x qual (J50 st) (i30 st) (b70 st) .none kV doc pm an cdv ct) ⟨us,[]⟩=pure (ps.zip us)):Binds K fd ps []:=by
 obtain⟨oc,od,kV,doc,pm,an,cdv,ct,osl,rfl,lk,hcd⟩:=F.ex;exact .all (h kV doc pm an cdv ct)
end
theorem L82{A:ö}{k:Nat}(hr:z30 k A):A.units + 1 < cLine:=Æ3 (Nat.add_le_add_left (by decide:1<=64) _) hr.units
section
variable {X:Cx}
theorem pv(i:Nat){x:Str}{pos:Pos}(hN:X.N[i]?=some x:=by rfl)(hv:Vis X.env.scope x:=by first | exact Ð4 rfl | exact Ö1 (Ð4 rfl) | exact Ö1 (Ö1 rfl))(hd:(x == ("__debug__":Str))=false:=by decide)
  (hcd:(x == ("__classdict__":Str))=false:=by decide):PE X (.Name x pos) (e42 i):=o00 hN hv hd hcd
end
theorem L92{A B:Prop}(h:B):if false=true then A else B:=by
 rw[if_neg Ò];exact h
theorem M02{c A B:Prop}[Decidable c](h1:c->A)(h2:¬ c->B):if c then A else B:=by
 by_cases h:c
 ·rw[if_pos h];exact h1 h
 ·rw[if_neg h];exact h2 h
def a20(H H':Hp):Prop:=∀ b o,H b=some o->H' b=some o
theorem a20.refl(H:Hp):a20 H H:=λ_ _ h=>h
theorem a20.trans{H H1 H2:Hp}(a:a20 H H1)(b:a20 H1 H2):a20 H H2:=λc o h=>b c o (a c o h)
end L2
set_option maxHeartbeats 4000000
namespace L2
open PySem
abbrev NoX:Ã->Å->Prop:=λ_ _=>False
theorem J60(env:Env):∀ (names:List (Str × É4)) (acc:List (Str × Æ)),(∀ y∈names,y.2=.free->∃ c,env.cells.lookup y.1=some c)->(∀ x c,acc.lookup x=some c->env.cells.lookup x=some c) ->
  ∃ cl:List (Str × Æ),(forIn names acc λ(x:Str × É4) (r:List (Str × Æ))=>(if (x.2 == .free)=true then do let c ← cellOf env x.1;pure (Û ((x.1,c)::r)) else pure (Û r):Sem (ForInStep (List (Str × Æ)))))=pure cl /\
   (∀ x c,cl.lookup x=some c->env.cells.lookup x=some c)/\(∀ x c,acc.lookup x=some c->∃ c',cl.lookup x=some c')/\(∀ y∈names,y.2=.free->∃ c,cl.lookup y.1=some c)
 |[],acc,_,ha=>⟨acc,by simp,ha,λx c e=>⟨c,e⟩,λy hy=>absurd hy (by simp)⟩
 |(n,k)::r,acc,hf,ha=>by
  by_cases hk:k=.free
  ·subst hk;obtain⟨c,hc⟩:=hf (n,.free) Ê rfl;have hcell:cellOf env n=pure c:=by unfold cellOf;rw[hc]
   obtain⟨cl,e,h1,h2,h3⟩:=J60 env r ((n,c)::acc) (λy hy=>hf y (É _ hy)) (λx c' e=>by
    rw[ü] at e;by_cases hx:(x == n)=true
    ·rw[hx] at e;have:x=n:=by simpa using hx
     subst this;cases e;exact hc
    ·rw[show(x == n)=false by simpa using hx] at e
     exact ha x c' e)
   refine⟨cl,?_,h1,λx c' e'=>?_,λy hy hyk=>?_⟩
   ·rw[Ë3];simp only[beq_self_eq_true,if_true,hcell,pure_bind];exact e
   ·by_cases hx:(x == n)=true
    ·exact h2 x c (by rw[ü,hx])
    ·exact h2 x c' (by rw[ü,show(x == n)=false by simpa using hx];exact e')
   ·rcases ô.mp hy with rfl | hy
    ·exact h2 n c (by simp[ü])
    ·exact h3 y hy hyk
  ·obtain⟨cl,e,h1,h2,h3⟩:=J60 env r acc (λy hy=>hf y (É _ hy)) ha;refine⟨cl,?_,h1,h2,λy hy hyk=>?_⟩
   ·rw[Ë3];have hb:((k == í)=true)=False:=by simpa using hk
    simp only[hb,if_false,pure_bind];exact e
   ·rcases ô.mp hy with rfl | hy
    ·exact absurd hyk hk
    ·exact h3 y hy hyk
theorem Y00(hf:∀ y∈scope.names,y.2=.free->∃ c,env.cells.lookup y.1=some c) :
  ∃ cl:List (Str × Æ),closureFor scope env=pure cl/\(∀ x c,cl.lookup x=some c->env.cells.lookup x=some c)/\(∀ y∈scope.names,y.2=.free->∃ c,cl.lookup y.1=some c):=by
 obtain⟨cl,e,h1,_,h3⟩:=J60 env scope.names [] hf (λx c e=>by simp at e)
 refine⟨cl,?_,h1,h3⟩;simp only[closureFor];exact(congrArg (λt=>t >>= λr=>(pure r:Sem _)) e).trans (by simp)
section
variable {P:Ü}{w:ì}{A:ö}{R:Result->Å->Prop}{s:Å}
theorem q91{el tg src:Ï}{tests:List Ï}{sc:ú}{ps:Pos}{itv av:Ã}{en:Env}(J:Nat->Å->Prop)
  (turn:∀ n s,J n s->Ñ (Ö P w) A (pyNext itv) (λr s1=>match r with
   |none=>R (.ok .next) s1
   |some v=>Ñ (Ö P w) A (Ü8 tg itv v) (λ_ s2=>Ñ (Ö P w) A (Õ5 tg en v) (λ_ s3 =>
     Ñ (Ö P w) A (forIn tests true λc r=>if r=true then do let ok ← isTrue c en (eval c en);pure (Û ok) else pure (Û r)) (λok s4 =>
      if ok=true then Ñ (Ö P w) A (eval el en) (λx s5 =>
       Ñ (Ö P w) A (call (.builtin "list.append") [av,x]) (λ_ s6=>∃ m,m < n/\J m s6) NoX s5) NoX s4
      else ∃ m,m < n/\J m s4) NoX s3) NoX s2) NoX s1) NoX s)
  (n:Nat) (h:J n s) :
  Ñ2 (Ö P w) A (.compLoop (.ListComp el [⟨tg,src,tests,0⟩] sc ps) 0 itv av en) R s:=by
 refine codeAny_loop rfl J (λn s hI=>?_) n h;show Ñ _ A ((compTurn (.ListComp el [⟨tg,src,tests,0⟩] sc ps) 0 itv av en).onRaise (λx=>do noteFrame x en;theTreesLotGoes x)) _ _ s;refine wpAny_noted ?_;rw[compTurn_list];refine À (Ø1 (À (Â4 (turn n s hI) (λr s1 h1=>?_) λ_ _ x=>x.elim)));cases r with
 |none=>exact Ç h1
 |some v =>
  refine À (Â4 h1 (λ_ s2 h2=>?_) λ_ _ x=>x.elim);refine À (Â4 h2 (λ_ s3 h3=>À (Â4 h3 (λok s4 h4=>?_) λ_ _ x=>x.elim)) λ_ _ x=>x.elim);cases ok with
  |false=>exact Ç ⟨rfl,h4⟩|true=>exact À (À (Â4 h4 (λx s5 h5=>À (Â4 h5 (λ_ s6 h6=>Ç (Ç ⟨rfl,h6⟩)) λ_ _ x=>x.elim)) λ_ _ x=>x.elim))
end
open PySem PySem.Spec PyProof.Rows
abbrev b90(X:Cx)(N':List Str)(sc:ú)(cl:List (Str × Æ))(C:Æ)(s:Å)(H:Hp)(fp:List Æ):Cx :=
 { X with N:=N',s₀:=s,H₀:=H,env:=compEnvC sc cl C X.env,outer:=X.stack,stack:=X.stack,ex:=fp,fn:=λ_=>false,pn:=[],xe:=NoX }
def d00(own:List Str)(capt:List (Str × Nat)):List Str:=own++capt.map (·.1)
def r50(own:List Str)(capt:List (Str × Nat))(σ:St):St:=own.map (λ_=>none)++capt.map λp=>(σ[p.2]?).getD none
structure r80(X:Cx)(sc:Scope)(own:List Str)(capt:List (Str × Nat)):Prop where
 kind:sc.kind=.function
 nocell:∀ y∈sc.names,y.2≠.cell
 locs:∀ y∈sc.names,y.2=.local->sc.names.lookup y.1=some .local
 frees:∀ y∈sc.names,y.2=.free->X.env.kindOf y.1=some .cell∨X.env.kindOf y.1=some .free
 captd:∀ p∈capt,X.N[p.2]?=some p.1/\sc.names.lookup p.1=some .free
theorem J70{env:Env}:∀ {names:List (Str × É4)}{x:Str}{k:É4},
  (names.map λ(n,k)=>if (k == í&&env.scope.kind == .function&&env.kindOf n == some .cell) then(n,Ä8) else(n,k)).lookup x=some k->(k=.cell∨k=.free)->(∀ y∈names,y.2≠.cell)->(x,í)∈names
 |[],_,_,h,_,_=>by simp at h
 |(n,k0)::r,x,k,h,hk,hn=>by
  have h:Ë4 x ((if (k0 == í&&env.scope.kind == .function&&env.kindOf n == some .cell)=true then(n,Ä8) else(n,k0))::_)=some k:=h;have hn0:k0≠.cell:=hn (n,k0) Ê;cases hx:x == n with
  |true =>
   have e:x=n:=by simpa using hx
   subst e;by_cases hc:(k0 == í&&env.scope.kind == .function&&env.kindOf x == some .cell)=true
   ·have:k0=.free:=by
     cases k0 <;> simp_all
    subst this;exact Ê
   ·rw[if_neg hc] at h;simp only[ü,hx] at h;cases h;rcases hk with hk | hk
    ·exact absurd hk hn0
    ·subst hk;exact Ê
  |false =>
   have h':(r.map λ(n,k)=>if (k == í&&env.scope.kind == .function&&env.kindOf n == some .cell) then(n,Ä8) else(n,k)).lookup x=some k:=by
    by_cases hc:(k0 == í&&env.scope.kind == .function&&env.kindOf n == some .cell)=true
    ·rw[if_pos hc] at h;simp only[ü,hx] at h;exact h
    ·rw[if_neg hc] at h;simp only[ü,hx] at h;exact h
   exact É _ (J70 h' hk λy hy=>hn y (É _ hy))
theorem q00{env:Env}:∀ {names:List (Str × É4)}{x:Str},names.lookup x=some .free ->
  (names.map λ(n,k)=>if (k == í&&env.scope.kind == .function&&env.kindOf n == some .cell) then(n,Ä8) else(n,k)).lookup x=some .cell ∨
  (names.map λ(n,k)=>if (k == í&&env.scope.kind == .function&&env.kindOf n == some .cell) then(n,Ä8) else(n,k)).lookup x=some .free
 |[],_,h=>by simp at h
 |(n,k)::r,x,h=>by
  have ih:=@q00 env r x;show Ë4 x ((if (k == í&&env.scope.kind == .function&&env.kindOf n == some .cell)=true then(n,Ä8) else(n,k))::_)=_∨Ë4 x ((if (k == í&&env.scope.kind == .function&&env.kindOf n == some .cell)=true then(n,Ä8) else(n,k))::_)=_;cases hx:x == n with
  |true =>
   simp only[ü,hx] at h;cases h;by_cases hc:(í == í&&env.scope.kind == .function&&env.kindOf n == some .cell)=true
   ·rw[if_pos hc];left;simp only[ü,hx]
   ·rw[if_neg hc];right;simp only[ü,hx]
  |false =>
   simp only[ü,hx] at h;by_cases hc:(k == í&&env.scope.kind == .function&&env.kindOf n == some .cell)=true
   ·rw[if_pos hc];simp only[ü,hx];exact ih h
   ·rw[if_neg hc];simp only[ü,hx];exact ih h
theorem HOk.F11{P:Ü}{w:ì}{H:Hp}{h:æ}{D:Æ}{ys:List V}{its:List Ã}{n:Nat}(x:HOk P w H h)(hn:H D=none)(hv:Vals ys its)(hz:ys.length<=sizeLine)
  (ho:h.get? D=some { cls:=.type "list",data:=.seq its.toArray n }):HOk P w (upd H D (.lst ys)) h:=λb u e=>by
 by_cases hb:b=D
 ·subst hb;rw[a90] at e;cases e;exact⟨hz,its,n,hv,ho⟩
 ·rw[a40 hb] at e;exact(x b u e).k41 (λc v _ q=>q) (λc q=>by rw[a40 (a80 q hn)];exact q) λc xs q=>by rw[a40 (a80 q hn)];exact q
def PTs(X:Cx)(tests:List Ï)(t:TT):Prop :=
 ∀ (pins:List (Æ × Obj)) (s:Å) (σ:St) (H:Hp) (Q:Bool->Hp->Prop),Inv X pins σ H s->t σ H Q ->
  Ñ (Ö X.prog X.w) X.A (forIn tests true λc r=>if r=true then do let ok ← isTrue c X.env (eval c X.env);pure (Û ok) else pure (Û r)) (TP X pins σ Q) X.xe s
def F21:TT:=λ_ H Q=>Q true H
theorem U21:PTs X [] F21:=λ_ _ _ H _ I h=>wpAny_tests_nil ⟨H,I,h⟩
theorem r01(hc:PT X c t):PTs X [c] t:=λpins s σ H Q I h=>wpAny_tests_one (hc pins s σ H Q I h)
section
variable {X:Cx}{pins:List (Æ × Obj)}{σ:St}{H2:Hp}{s2:Å}{sc:ú}{own:List Str}{capt:List (Str × Nat)}{cl:List (Str × Æ)}{fp:List Æ}{C:Æ}
theorem Q60(I:Inv X pins σ H2 s2)(S:r80 X sc own capt)(hcl:∀ x c,cl.lookup x=some c->X.env.cells.lookup x=some c)(hcf:∀ y∈sc.names,y.2=.free->∃ c,cl.lookup y.1=some c)
  (hx:∀ x c,X.env.cells.lookup x=some c->c ∉ fp) {h':æ} (un:∀ c o,s2.heap.get? c=some o->H2 c=none->c ∉ fp->∃ sl,h'.get? c=some { o with slots:=sl }) (m:Str->Option Ã) :
  ∀ (i:Nat) (x:Str) (v:V),(d00 own capt)[i]?=some x->(r50 own capt σ)[i]?=some (some v)->∃ u,RelV v u/\Look (compEnvC sc cl C X.env) h' m x u:=by
 intro i x v e1 e2;unfold d00 at e1;unfold r50 at e2;by_cases hi:i < own.length
 ·rw[Î7 (by simpa using hi),Ø] at e2
  cases q:own[i]? with
  |none=>rw[q] at e2;cases e2
  |some y=>rw[q] at e2;cases e2
 ·rw[Ä6 (by simpa using hi),È,Ø] at e2
  rw[Ä6 (by simpa using hi),Ø] at e1
  cases q:capt[i - own.length]? with
  |none=>rw[q] at e1;cases e1
  |some p =>
   rw[q] at e1 e2;obtain rfl:p.1=x:=À9 e1;have e3:(σ[p.2]?).getD none=some v:=À9 e2;have e4:σ[p.2]?=some (some v):=by
    cases z:σ[p.2]? with
    |none=>rw[z] at e3;cases e3
    |some w=>rw[z] at e3;exact congrArg some e3
   obtain⟨hN,hf⟩:=S.captd p (ä q);have hmem:(p.1,í)∈sc.names:=À8 hf;have hk:=S.frees _ hmem rfl;obtain⟨m0,_,hl⟩:=I.loc;have vis:Vis X.env.scope p.1:=.inr hk;obtain⟨u,r,lk⟩:=hl p.2 p.1 v hN e4 vis;refine⟨u,r,.inr ⟨?_,?_⟩⟩
   ·exact q00 hf
   ·rcases lk with ⟨hl0,_⟩ | ⟨_,c,hc,o,ho,hd⟩
    ·rcases hk with hk | hk <;> (rw[hk] at hl0;cases hl0)
    ·obtain⟨c',hc'⟩:=hcf _ hmem rfl;have:=hcl _ _ hc';rw[hc] at this;cases this;obtain⟨sl,q'⟩:=un c o ho (I.freeC _ _ hc) (hx _ _ hc);exact⟨c,hc',_,q',hd⟩
end
def U31(X:Cx)(pins:List (Æ × Obj))(σ:St)(R:V->Hp->Prop)(acc:Ã)(C:Æ)(s':Å):Prop :=
 ∃ D H' m',acc=.ref D/\Inv X pins σ H' s'/\X70 X pins H' C/\s'.heap.Ns C m'/\R (.ref D) H'
def r11(J:It)(σ0:St)(H1:Hp)(g:TG)(tt:TT)(te:TE)(Q:VK):Prop:=∃ W:Nat->Nat->List V->Hp->Prop,(∃ m,W 0 m [] H1)/\∀ i m ys H,W i m ys H ->
 (J.stop i H/\∀ p,H p=none->Q (.ref p) (upd H p (.lst ys))) ∨
 (J.go i H/\ys.length < sizeLine/\∃ N:List V->Hp->Prop,(∀ zs H',N zs H'->∃ m',m' < m/\W (i + 1) m' zs H')/\∀ x H',J.yld i H x H'->g x σ0 H' λσ2 H2=>tt σ2 H2 λb H3 =>
  if b=true then te σ2 H3 (λy H4=>N (ys++[y]) H4) else N ys H3)
def U41(own:List Str)(capt:List (Str × Nat))(wi:TI)(g:TG)(tt:TT)(te:TE):TE:=λσ H Q=>wi σ H λJ H1=>r11 J (r50 own capt σ) H1 g tt te Q
section
variable {X:Cx}{pins:List (Æ × Obj)}{σ:St}{H2:Hp}{s2:Å}{sc:ú}{own:List Str}{capt:List (Str × Nat)}{cl:List (Str × Æ)}{el tg src:Ï}{tests:List Ï}{ps:Pos}{g:TG}{tt:TT}{te:TE}
theorem x30(hc:X.calm=true)(S:r80 X sc own capt)(hcl:∀ x c,cl.lookup x=some c->X.env.cells.lookup x=some c)(hcf:∀ y∈sc.names,y.2=.free->∃ c,cl.lookup y.1=some c)
  (hg:∀ C s H fp,PG (b90 X (d00 own capt) sc cl C s H fp) tg g) (ht:∀ C s H fp,PTs (b90 X (d00 own capt) sc cl C s H fp) tests tt) (he:∀ C fp,(∀ b∈fp,X70 X pins H2 b)->PE (b90 X (d00 own capt) sc cl C s2 H2 fp) el te)
  {it:Æ}{fp:List Æ}{tn:Nat->æ->Prop}{J:It} (I2:Inv X pins σ H2 s2) (T:Turn X.prog X.w X.K tg J fp it tn) (st2:tn 0 s2.heap) (f2:∀ b∈fp,X70 X pins H2 b)
  {R:VK} (h:r11 J (r50 own capt σ) H2 g tt te R) {RR:Ã->Æ->Result->Å->Prop} (hRR:∀ acc C s',U31 X pins σ R acc C s'->RR acc C (.ok .next) s') {E:Ã->Å->Prop} :
  Ñ (Ö X.prog X.w) X.A (newList []) (λacc s3=>Ñ (Ö X.prog X.w) X.A (newFunctionEnv sc X.env.globals cl [] X.env.qual none .none (some X.env)) (λce s4 =>
   Ñ2 (Ö X.prog X.w) X.A (.compStart (.ListComp el [⟨tg,src,tests,0⟩] sc ps) 0 (.ref it) acc { ce with scope:=relabel sc X.env }) (RR acc ce.locals) s4) E s3) E s2:=by
 obtain⟨W,⟨m0,w0⟩,turn⟩:=h;refine ò (wpAny_newFunctionEnv S.nocell (by intro y hy;simp at hy) (λh1 hns1 hsb1=>?_) S.kind)
 dsimp only at hns1 hsb1 ⊢;generalize hH3:s2.heap.push { cls:=.type "list",dict:=none,data:=.seq ([]:List Ã).toArray }=h3 at hns1 hsb1 ⊢;have hC:h3.objs.size=s2.heap.objs.size + 1:=by rw[← hH3,Í7]
 have below:∀ b,b < s2.heap.objs.size->b≠h3.objs.size/\b≠s2.heap.objs.size:=λb hb=>⟨by omega,by omega⟩
 have hDC:s2.heap.objs.size≠h3.objs.size:=by omega
 have old:∀ b o,s2.heap.get? b=some o->h1.get? b=some o:=λb o e=>hsb1.extBut b o (below b (ß e)).1 (Ä _ (hH3 ▸ Ä _ e));have hacc:h1.get? s2.heap.objs.size=some { cls:=.type "list",data:=.seq ([]:List Ã).toArray 0 }:=hsb1.extBut _ _ hDC (Ä _ (hH3 ▸ Î _ rfl));have fpLt:∀ b∈fp,b < s2.heap.objs.size:=λb hb=>by
  obtain⟨o,e,_⟩:=T.obj _ _ st2 b hb;exact ß e
 have celLt:∀ x c,X.env.cells.lookup x=some c->c < s2.heap.objs.size:=λx c e=>by
  obtain⟨v,o,q,_⟩:=I2.cell x c e;exact ß q
 have frLt:∀ b∈frs X.stack,b < s2.heap.objs.size:=λb hb=>by
  obtain⟨_,o,q,_⟩:=I2.stack.mem hb;exact ß q
 have celFp:∀ x c,X.env.cells.lookup x=some c->c ∉ fp:=λx c e hb=>(f2 c hb).2.2.2.2.1 x c e rfl;have fpFr:∀ b∈fp,b ∉ frs X.stack:=λb hb hf=>by
  rcases ô.mp (I2.o61 b hf) with z | z
  ·exact(f2 b hb).2.1 z
  ·exact(f2 b hb).2.2.1 z
 have okX:(b90 X (d00 own capt) sc cl h3.objs.size s2 H2 fp).Ok:=by
  refine⟨I2.ok.mod,S.kind,I2.ok.glob,I2.ok.blt,(by show s2.heap.objs.size<=h3.objs.size;omega),λx y c e1 e2=>I2.ok.inj x y c (hcl x c e1) (hcl y c e2),λx hx=>?_,λx c hx=>(by cases hx),I2.ok.hd,I2.ok.frames,.inl rfl,
   λb hb=>⟨(below b (fpLt b hb)).1,λx c e z=>celFp x c (hcl x c e) (z ▸ hb)⟩,I2.bs,Þ I2.ok.bsz I2.sz,λb o e hb=>?_,fpFr,I2.stack,I2.x10⟩
  ·have hx':(x,í)∈sc.names:=by
    rcases hx with hx | hx
    ·exact J70 hx (.inl rfl) S.nocell
    ·exact J70 hx (.inr rfl) S.nocell
   exact hcf _ hx' rfl
  ·rcases (f2 b hb).2.2.2.1 with z | z
   ·exact I2.ok.noex b o e z
   ·have l1:b < X.base.objs.size:=ß e;have l2:X.base.objs.size<=X.s₀.heap.objs.size:=I2.ok.bsz;have l3:X.s₀.heap.objs.size<=b:=z;exact absurd l1 (Nat.not_lt.mpr (Þ l2 l3))
 have reset:∀ {pl:List (Æ × Obj)}{σ':St}{H':Hp}{s':Å},Inv (b90 X (d00 own capt) sc cl h3.objs.size s2 H2 fp) pl σ' H' s'->Inv (b90 X (d00 own capt) sc cl h3.objs.size s2 H2 fp) pl (r50 own capt σ) H' s':=λ{pl σ' H' s'} I'=>by
  obtain⟨m,hn,_⟩:=I'.loc;refine⟨I'.ok,I'.os,I'.bare,I'.base,⟨m,hn,λi x v e1 e2 _=>Q60 I2 S hcl hcf celFp (λc o q n hx=>I'.base.any q n hx) m i x v e1 e2⟩,I'.cell,I'.free,I'.freeC,I'.pin,I'.hok,?_⟩;show(r50 own capt σ).length=(d00 own capt).length;simp[r50,d00]
 have start:Inv (b90 X (d00 own capt) sc cl h3.objs.size s2 H2 fp) [(s2.heap.objs.size,{ cls:=.type "list",data:=.seq ([]:List Ã).toArray 0 })] (r50 own capt σ) H2 { s2 with heap:=h1,toks:=s2.toks + ([]:List (Str × Ã)).length }:=by
  refine⟨okX,rfl,I2.bare,Un.kept old,⟨_,hns1,λi x v e1 e2 _=>Q60 I2 S hcl hcf celFp (λc o q _ _=>⟨o.slots,old c o q⟩) _ i x v e1 e2⟩,λx c e=>?_,?_,λx c e=>I2.freeC x c (hcl x c e),λp hp=>?_,I2.hok.kept old,?_⟩
  ·obtain⟨v,q⟩:=I2.cell x c (hcl x c e);exact⟨v,q.keeps old⟩
  ·exact I2.hok.fresh (by show s2.heap.objs.size<=h3.objs.size;omega)
  ·have hp':p=(s2.heap.objs.size,{ cls:=.type "list",data:=.seq ([]:List Ã).toArray 0 }):=by simpa using hp
   subst hp';exact⟨hacc,I2.hok.fresh (Ë _),hDC,λz=>À3 _ (frLt _ z),λv z=>by cases z⟩
  ·show(r50 own capt σ).length=(d00 own capt).length;simp[r50,d00]
 have o21:∀ {pl:List (Æ × Obj)}{H':Hp},(∀ p∈pl,p.1 ∉ fp)->(∀ b∈fp,H' b=none)->∀ b∈fp,X70 (b90 X (d00 own capt) sc cl h3.objs.size s2 H2 fp) pl H' b:=λ{pl H'} hp hn b hb =>
  ⟨hn b hb,(below b (fpLt b hb)).1,fpFr b hb,.inl hb,λx c e z=>celFp x c (hcl x c e) (z ▸ hb),λp hpp z=>hp p (by simpa using hpp) (z ▸ hb)⟩
 have hDfp:s2.heap.objs.size ∉ fp:=λz=>À3 _ (fpLt _ z);have loop:∀ s3:Å,s3={ s2 with heap:=h1,toks:=s2.toks + ([]:List (Str × Ã)).length } ->
   Ñ2 (Ö X.prog X.w) X.A (.compLoop (.ListComp el [⟨tg,src,tests,0⟩] sc ps) 0 (.ref it) (.ref s2.heap.objs.size) (compEnvC sc cl h3.objs.size X.env)) (RR (.ref s2.heap.objs.size) h3.objs.size) s3:=by
  rintro s3 rfl;refine q91 (λn s'=>∃ i ys H' its k,Inv (b90 X (d00 own capt) sc cl h3.objs.size s2 H2 fp) [(s2.heap.objs.size,{ cls:=.type "list",data:=.seq (toArray its) k })] (r50 own capt σ) H' s'/\tn i s'.heap/\(∀ b∈fp,H' b=none)/\Vals ys its/\ys.length<=sizeLine/\W i n ys H') ?_ m0
   ⟨0,[],H2,[],0,start,T.keep _ _ _ st2 λb _ o e=>old b o e,λb hb=>(f2 b hb).1,.nil,Å8 _,w0⟩
  rintro n s' ⟨i,ys,H',its,k,I',st',fr',hv,hz,w'⟩;have pinD:∀ p∈[((s2.heap.objs.size:Æ),({ cls:=.type "list",data:=.seq (toArray its) k }:Obj))],p.1 ∉ fp:=λp hp=>by
   have hp':p=(s2.heap.objs.size,{ cls:=.type "list",data:=.seq (toArray its) k }):=by simpa using hp
   subst hp';exact hDfp
  rcases turn i n ys H' w' with ⟨stop,q⟩ | ⟨go,hlt,N,hN,step⟩
  ·refine thn (T.done (b90 X (d00 own capt) sc cl h3.objs.size s2 H2 fp) rfl rfl rfl hc i _ s' _ H' NoX I' (o21 pinD fr') st' stop) λr s1 hr=>?_;obtain⟨hr,I1⟩:=hr;subst hr;obtain⟨gD,nD,_,_,_⟩:=I1.pin _ (ê _ Ê);obtain⟨m',hn',_⟩:=id I1.loc;have un:Un (frs X.stack) fp H2 (upd H' s2.heap.objs.size (.lst ys)) s2.heap s1.heap:=by
    have u:=I1.base;have nD2:H2 s2.heap.objs.size=none:=I2.hok.fresh (Ë _);refine⟨u.keep,u.slot,λb o e n hx=>?_,u.there,λb xs e=>?_,λb o xs e=>?_,λb ps' e=>?_⟩
    ·rw[a40 (below b (ß e)).2];exact u.free b o e n hx
    ·rw[a40 (a80 e nD2)];exact u.tups b xs e
    ·rw[a40 (a80 e nD2)];exact u.frzs b o xs e
    ·obtain⟨more,e'⟩:=u.tbls b ps' e;exact⟨more,by rw[a40 (a80 e nD2)];exact e'⟩
   have IX:Inv X pins σ (upd H' s2.heap.objs.size (.lst ys)) s1:=I2.f82 I1.os un (I1.hok.F11 nD hv hz gD) I1.bare λb hb=>⟨(f2 b hb).2.2.2.1,(f2 b hb).2.1,(f2 b hb).2.2.2.2.1,(f2 b hb).2.2.2.2.2⟩;refine hRR _ _ _ ⟨_,_,m',rfl,IX,?_,hn',q _ nD⟩;exact I2.o21 ∅ (by rw[a40 hDC.symm];exact I1.free)
  ·refine thn (T.item (b90 X (d00 own capt) sc cl h3.objs.size s2 H2 fp) rfl rfl rfl hc i _ s' _ H' NoX I' (o21 pinD fr') st' go) λr s1 hr=>?_;obtain⟨u,hr,h4⟩:=hr;subst hr;refine thn h4 λ_ s5 hr5=>?_;obtain⟨x,H5,I5,r5,y5,st5,fr5⟩:=hr5;have I5p:=I5.pinned (o21 pinD fr5) (T.obj _ _ st5);refine thn (hg _ _ _ _ _ s5 _ H5 x u _ I5p r5 (step x H5 y5)) λ_ s6 hr6=>?_;obtain⟨σ6,H6,I6,q6⟩:=hr6;refine thn (ht _ _ _ _ _ s6 σ6 H6 _ I6 q6) λok s7 hr7=>?_;obtain⟨H7,I7,q7⟩:=hr7;have memFp:∀ {pl:List (Æ × Obj)}{b:Æ}{o:Obj},b∈fp->s5.heap.get? b=some o->(b,o)∈([]:List (Æ × Obj))++(pl++C70 fp s5.heap):=λhb e=>ê _ (ê _ (k70 hb e));cases ok with
   |false =>
    rw[if_neg Ò] at q7 ⊢;obtain⟨m',hm,w7⟩:=hN _ _ q7;refine⟨m',hm,i + 1,ys,H7,its,k,reset (I7.C50 λp hp=>I7.pin p (ê _ (Å0 _ hp))),T.keep _ _ _ st5 λb hb o e=>(I7.pin (b,o) (memFp hb e)).1,λb hb=>?_,hv,hz,w7⟩;obtain⟨o,e,_⟩:=T.obj _ _ st5 b hb;exact(I7.pin (b,o) (memFp hb e)).2.1
   |true =>
    rw[if_pos rfl] at q7 ⊢;refine thn (he _ _ f2 _ s7 σ6 H7 _ I7 q7) λuv s8 hr8=>?_;obtain⟨y,H8,I8,r8,q8⟩:=hr8;obtain⟨m',hm,w8⟩:=hN _ _ q8;obtain⟨gD,nD,dC,dF,_⟩:=I8.pin _ (ê _ (Å0 _ Ê));refine append_at gD (λh9 sb hD9=>?_) (by show(toArray its).size<=sizeLine;rw[Õ,← hv.length];exact hz)
    have I8a:Inv (b90 X (d00 own capt) sc cl h3.objs.size s2 H2 fp) (C70 fp s5.heap) σ6 H8 s8:=I8.C50 λp hp=>I8.pin p (ê _ (ê _ hp));have I9:Inv (b90 X (d00 own capt) sc cl h3.objs.size s2 H2 fp) (C70 fp s5.heap) σ6 H8 { s8 with heap:=h9 }:=I8a.turned (t':=s8.toks) (λb o hb e=>(sb.2 b hb).trans e) nD dC (.inr (Ë _))
     (λx c e z=>À3 s2.heap.objs.size (by have:=celLt x c (hcl x c e);rw[z] at this;exact this)) (λp hp z=>hDfp (z ▸ (P20 (by simpa using hp)).1))
    rw[List.push_toArray] at hD9;refine⟨m',hm,i + 1,ys++[y],H8,its++[uv],k + 1,(reset I9).C50 λp hp=>?_,T.keep _ _ _ st5 λb hb o e=>?_,λb hb=>?_,hv.append (.cons r8 .nil),by rw[Â0];exact hlt,w8⟩
    ·have hp':p=(s2.heap.objs.size,{ cls:=.type "list",data:=.seq (toArray (its++[uv])) (k + 1) }):=by simpa using hp
     subst hp';exact⟨hD9,nD,dC,dF,λv z=>by cases z⟩
    ·exact(I9.pin (b,o) (ê _ (k70 hb e))).1
    ·obtain⟨o,e,_⟩:=T.obj _ _ st5 b hb;exact(I9.pin (b,o) (ê _ (k70 hb e))).2.1
 exact codeAny_compStart_list (loop _ rfl) (T.self _ 0 _ _ _ (T.keep _ _ _ st2 λb _ o e=>old b o e) (loop _ rfl))
end
section
variable {X:Cx}{sc:ú}{own:List Str}{capt:List (Str × Nat)}{el tg src:Ï}{tests:List Ï}{ps pos:Pos}{wi:TI}{g:TG}{tt:TT}{te:TE}
theorem r21(hc:X.calm=true)(S:r80 X sc own capt)(hi:PI X tg src wi)(hg:∀ cl C s H fp,PG (b90 X (d00 own capt) sc cl C s H fp) tg g)
  (ht:∀ cl C s H fp,PTs (b90 X (d00 own capt) sc cl C s H fp) tests tt) (he:∀ cl C s H fp,PE (b90 X (d00 own capt) sc cl C s H fp) el te)
  (hs:∀ x,Ç6 src X.env x=pure x:=by intro _;rfl):PE X (.ListComp el [⟨tg,src,tests,0⟩] sc ps) (U41 own capt wi g tt te):=by
 intro pins s σ H Q I h;obtain⟨cl,hclos,hcl,hcf⟩:=Y00 (scope:=sc) (env:=X.env) λy hy hk=>I.ok.has y.1 (S.frees y hy hk);rw[eval_ListComp];refine Ñ7 (use:=none) rfl hs hclos S.kind S.locs (thn (hi pins s σ H _ I h) λv s1 h1=>thn h1 λitv s2 h2=>?_);obtain⟨it,fp,tn,J,H2,e,I2,T,st2,f2,hw⟩:=h2;subst e;refine x30 hc S hcl hcf (hg cl) (ht cl) (λC fp _=>he cl C _ _ fp) I2 T st2 f2 hw (RR:=λacc C=>compPost (Ö X.prog X.w) X.A X.xe none (EP X pins σ Q) acc C) λacc C s' hf=>?_;obtain⟨D,H',m',rfl,I',f',ns',r⟩:=hf;exact⟨m',ns',λh' sb=>⟨.ref D,H',I'.turned (t':=s'.toks) (λb o hb e=>(sb.2 b hb).trans e) f'.1 f'.2.1 f'.2.2.2.1 f'.2.2.2.2.1 f'.2.2.2.2.2,rfl,r⟩⟩
theorem u22{te:St->Hp->TE}{Cond:St->Hp->Prop}(hc:X.calm=true)(S:r80 X sc own capt)(hi:PI X tg src wi)(hg:∀ cl C s H fp,PG (b90 X (d00 own capt) sc cl C s H fp) tg g)
  (ht:∀ cl C s H fp,PTs (b90 X (d00 own capt) sc cl C s H fp) tests tt) (he:∀ cl pins σ H s,Inv X pins σ H s->(∀ x c,cl.lookup x=some c->X.env.cells.lookup x=some c)->Cond σ H->∀ C fp,(∀ b∈fp,X70 X pins H b)->PE (b90 X (d00 own capt) sc cl C s H fp) el (te σ H))
  (hs:∀ x,Ç6 src X.env x=pure x:=by intro _;rfl):PE X (.ListComp el [⟨tg,src,tests,0⟩] sc ps) (λσ H Q=>wi σ H λJ H1=>Cond σ H1/\r11 J (r50 own capt σ) H1 g tt (te σ H1) Q):=by
 intro pins s σ H Q I h;obtain⟨cl,hclos,hcl,hcf⟩:=Y00 (scope:=sc) (env:=X.env) λy hy hk=>I.ok.has y.1 (S.frees y hy hk);rw[eval_ListComp];refine Ñ7 (use:=none) rfl hs hclos S.kind S.locs (thn (hi pins s σ H _ I h) λv s1 h1=>thn h1 λitv s2 h2=>?_);obtain⟨it,fp,tn,J,H2,e,I2,T,st2,f2,cd,hw⟩:=h2;subst e;refine x30 hc S hcl hcf (hg cl) (ht cl) (λC fp hf=>he cl _ _ _ _ I2 hcl cd C fp hf) I2 T st2 f2 hw (RR:=λacc C=>compPost (Ö X.prog X.w) X.A X.xe none (EP X pins σ Q) acc C) λacc C s' hf=>?_;obtain⟨D,H',m',rfl,I',f',ns',r⟩:=hf;exact⟨m',ns',λh' sb=>⟨.ref D,H',I'.turned (t':=s'.toks) (λb o hb e=>(sb.2 b hb).trans e) f'.1 f'.2.1 f'.2.2.2.1 f'.2.2.2.2.1 f'.2.2.2.2.2,rfl,r⟩⟩
theorem U51{i:Nat}{y:Str}{py:Pos}(hN:X.N.Nodup)(hiN:X.N[i]?=some y)(hy:Loc X.env.scope y)(hsw:Ó0 (.ListComp el [⟨tg,src,tests,0⟩] sc ps) (some (.Name y py)) pos.line X.env=pure true)
  (hc:X.calm=true) (S:r80 X sc own capt) (hi:PI X tg src wi) (hg:∀ cl C s H fp,PG (b90 X (d00 own capt) sc cl C s H fp) tg g)
  (ht:∀ cl C s H fp,PTs (b90 X (d00 own capt) sc cl C s H fp) tests tt) (he:∀ cl C s H fp,PE (b90 X (d00 own capt) sc cl C s H fp) el te)
  (hs:∀ x,Ç6 src X.env x=pure x:=by intro _;rfl) (hf:X.fn y=true∨X.env.scope.names.lookup y=some .local:=by first | exact .inl rfl | exact .inr rfl | assumption) :
  PS X (.Assign [.Name y py] (.ListComp el [⟨tg,src,tests,0⟩] sc ps) pos) (h02 (U41 own capt wi g tt te) (X60 i)):=by
 intro pins s σ H D I h;obtain⟨cl,hclos,hcl,hcf⟩:=Y00 (scope:=sc) (env:=X.env) λy hy hk=>I.ok.has y.1 (S.frees y hy hk);rw[exec_Assign_Name_used _ _ _ _ hsw];refine À (Ø1 (À ?_));show Ñ _ X.A (do let _ ← comprehension (.ListComp el [⟨tg,src,tests,0⟩] sc ps) sc X.env _ (newList []) false (eval src X.env) (some (Õ5 (.Name y py) X.env))) _ _ s;refine À (Â4 (Ñ7 (use:=some (Õ5 (.Name y py) X.env)) (Q:=λ_ s'=>SP X pins D .next s') rfl hs hclos S.kind S.locs
  (thn (hi pins s σ H _ I h) λv s1 h1=>thn h1 λitv s2 h2=>?_)) (λ_ s' hq=>Ç (Ç hq)) λ_ _ e=>e)
 obtain⟨it,fp,tn,J,H2,e,I2,T,st2,f2,hw⟩:=h2;subst e;refine x30 hc S hcl hcf (hg cl) (ht cl) (λC fp _=>he cl C _ _ fp) I2 T st2 f2 hw (RR:=λacc C=>compPost (Ö X.prog X.w) X.A X.xe (some (Õ5 (.Name y py) X.env)) (λ_ s'=>SP X pins D .next s') acc C) λacc C s' hfn=>?_;obtain⟨DA,H',m',rfl,I',f',ns',r⟩:=hfn;show Ñ _ X.A (Õ5 (.Name y py) X.env (.ref DA)) _ _ _;refine wpAny_assign_Name (C60 (v:=.ref DA) I' hN hiN hy rfl (λs3 I3 ha=>?_) hf);obtain⟨a,sb,ha⟩:=ha;have hCa:C≠a:=λz=>by
  rcases ha with q | q
  ·exact f'.2.1 (z.trans q)
  ·exact f'.2.2.2.2.1 _ _ q z.symm
 exact⟨m',ns'.sameBut sb hCa,λh' sb'=>⟨_,H',I3.turned (t':=s3.toks) (λb o hb e=>(sb'.2 b hb).trans e) f'.1 f'.2.1 f'.2.2.2.1 f'.2.2.2.2.1 f'.2.2.2.2.2,r⟩⟩
end
end L2
namespace L2
open PySem
section
variable {P:Ü}{w:ì}{A:ö}{E:Ã->Å->Prop}{s:Å}
theorem q10{r t:Æ}{k:Nat}{vs:Array Ã}{x:Ã}{Q:Ã->Å->Prop}(hr:s.heap.IsTupleIter r t k)(ht:s.heap.IsTuple t vs)(hx:vs[k]?=some x)
  (hQ:∀ h',h'.IsTupleIter r t (k + 1)->Ö4 r s.heap h'->Q x { s with heap:=h' }):Ñ (Ö P w) A (nextOf (.ref r)) Q E s:=by
 obtain⟨o,ho,hc,hd⟩:=id hr;obtain⟨ot,hot,_,nt,hdt⟩:=ht;unfold nextOf;refine À (Á8 (name:=À6 "__next__") hr.typeIs Ç9 (Ä7 Ç9 hr.typeIs Ü6 ?_ (Ü3 _)));show Ñ _ _ (field (.ref r) 0 >>= _) _ _ s;refine À (À4 ho hd (x:=.ref t) rfl ?_);show Ñ _ _ (if (Â8 t == â)=true then _ else _) _ _ s;rw[if_neg (show ¬ ((Â8 t == â)=true) from Ò)];show Ñ _ _ (field (.ref r) 1 >>= _) _ _ s;refine À (À4 ho hd (x:=.int k 0) rfl ?_);show Ñ _ _ (seqItems? (.ref t) >>= _) _ _ s;refine À (Æ2 hot hdt ?_);simp only[Ã2,hx];refine À (wpAny_setField ho hd (by simp) (Ç ⟨x,rfl,Ç (hQ _ ⟨_,Ý6 _ ho (Obj.isFreed_of_fields (Obj.data_mapFields hd _)),(Obj.cls_mapFields ..).trans hc,by rw[Obj.data_mapFields hd];simp[Ç2]⟩ (Ê1 ..))⟩))
theorem l80{r t:Æ}{k:Nat}{vs:Array Ã}{Q:Ã->Å->Prop}(hh:A.handled=none)(hr:s.heap.IsTupleIter r t k)(ht:s.heap.IsTuple t vs)(hx:vs[k]?=none)
  (hE:∀ h' e,æ.ExtBut r s.heap h'->(∃ o,h'.get? e=some o/\o.cls=.type "StopIteration")->E (.ref e) { s with heap:=h' }):Ñ (Ö P w) A (nextOf (.ref r)) Q E s:=by
 obtain⟨o,ho,hc,hd⟩:=id hr;obtain⟨ot,hot,_,nt,hdt⟩:=ht;unfold nextOf;refine À (Á8 (name:=À6 "__next__") hr.typeIs Ç9 (Ä7 Ç9 hr.typeIs Ü6 ?_ (Ü3 _)));show Ñ _ _ (field (.ref r) 0 >>= _) _ _ s;refine À (À4 ho hd (x:=.ref t) rfl ?_);show Ñ _ _ (if (Â8 t == â)=true then _ else _) _ _ s;rw[if_neg (show ¬ ((Â8 t == â)=true) from Ò)];show Ñ _ _ (field (.ref r) 1 >>= _) _ _ s;refine À (À4 ho hd (x:=.int k 0) rfl ?_);show Ñ _ _ (seqItems? (.ref t) >>= _) _ _ s;refine À (Æ2 hot hdt ?_);simp only[Ã2,hx];refine À (Ï5 (À (wpAny_setField ho hd (by simp) ?_)));show Ñ _ _ (newExc (.type "StopIteration") [] >>= _) _ _ _
 refine À ?_;simp only[newExc,newTuple];refine À (ò ?_ (by size_fits));refine À (m:=firstArgMember _ _) (wpAny_of_eq (a:=â) (by first | rfl | (simp only[firstArgMember];rfl)) ?_)
 refine ò ?_ (by size_fits);simp only[raiseNew];refine À (wpAny_handled ?_)
 first | rw[show A.in1.handled=none from hh] | rw[hh]
 refine À (Ç (wpAny_throw (hE _ _ (((Ê1 ..).extBut.push _).push _) ⟨_,Î _ rfl,rfl⟩)))
theorem r31{z TI TO i1 i2 l1 l2:Æ}{k:Nat}{xs ys:Array Ã}{x y a b:Ã}{Q:Option Ã->Å->Prop}(D:ZipApart z TI TO i1 i2 l1 l2)(hz:Ð2 s.heap z TI TO .none)
  (hTI:Ä9 s.heap TI (.ref i1) (.ref i2)) (hTO:Ä9 s.heap TO a b) (h1:s.heap.IsTupleIter i1 l1 k) (h2:s.heap.IsTupleIter i2 l2 k) (hl1:s.heap.IsTuple l1 xs) (hl2:s.heap.IsTuple l2 ys)
  (hx:xs[k]?=some x) (hy:ys[k]?=some y)
  (hQ:∀ h',Ð2 h' z TI TO (Ç2 s.heap.objs.size)->Ä9 h' TO x y->h'.IsTupleIter i1 l1 (k + 1)->h'.IsTupleIter i2 l2 (k + 1)->Ä9 h' s.heap.objs.size x y->h'.objs.size=s.heap.objs.size + 1 ->
   (∀ c o,c≠z->c≠TO->c≠i1->c≠i2->s.heap.get? c=some o->h'.get? c=some o)->Q (some (.ref s.heap.objs.size)) { s with heap:=h' }):Ñ (Ö P w) A (pyNext (.ref z)) Q E s:=by
 have hT:s.TypeIs (.ref z) "zip":=⟨_,hz,rfl⟩;unfold pyNext;refine À (Ñ8 (Á8 (name:=À6 "__next__") hT Ó6 (Ä7 Ó6 hT F.entry_zip_next ?_ (F.args_zip_next_1 _))));show Ñ _ _ (field (.ref z) 2 >>= _) _ _ _;refine À (À4 hz rfl (x:=.bool false) rfl ?_);show Ñ _ _ (field (.ref z) 3 >>= _) _ _ _;refine À (À4 hz rfl (x:=.ref TI) rfl ?_);refine À (Æ2 hTI rfl ?_);show Ñ _ _ (Ë2 (.ref z) >>= _) _ _ _;refine À ?_;unfold Ë2;refine À (À4 hz rfl (x:=.none) rfl (Ç ?_));simp only[if_true];refine À (Ï5 (À (À4 hz rfl (x:=.ref TO) rfl (À (Æ5 hz (by simp) λg1 z1 e1=>?_)))))
 replace z1:Ð2 g1 z TI TO .ellipsis:=z1
 refine À ?_;simp only[List.zipIdx_cons,List.zipIdx_nil,Ë3,Ô4];refine À (À (Ø2 ?_));show Ñ _ _ (nextOf (.ref i1) >>= _) _ _ _;refine À (q10 (h1.extBut e1.extBut D.i1z) (hl1.extBut e1.extBut D.l1z) hx λg2 r2 e2=>Ç ?_);have t2:Ä9 g2 TO a b:=e2.extBut _ _ D.TOi1 (e1.extBut _ _ D.TOz hTO);refine À (Æ2 t2 rfl (À (Õ2 t2 λg3 t3 e3=>?_)))
 replace t3:Ä9 g3 TO x b:=t3
 refine À (wpAny_letGo (Ç ?_));refine À (À (Ø2 ?_));show Ñ _ _ (nextOf (.ref i2) >>= _) _ _ _;refine À (q10 (((h2.extBut e1.extBut D.i2z).extBut e2.extBut D.i12.symm).extBut e3.extBut D.TOi2.symm) (((hl2.extBut e1.extBut D.l2z).extBut e2.extBut D.l2i1).extBut e3.extBut D.l2TO) hy λg4 r4 e4=>Ç ?_);have t4:Ä9 g4 TO x b:=e4.extBut _ _ D.TOi2 t3;refine À (Æ2 t4 rfl (À (Õ2 t4 λg5 t5 e5=>?_)))
 replace t5:Ä9 g5 TO x y:=t5
 refine À (wpAny_letGo (Ç (Ç ?_)));refine À (Æ2 t5 rfl (À (wpAny_newTuple ?_)));have sz:g5.objs.size=s.heap.objs.size:=by rw[e5.1,e4.1,e3.1,e2.1,e1.1]
 have z5:Ð2 g5 z TI TO .ellipsis:=e5.extBut _ _ D.TOz.symm (e4.extBut _ _ D.i2z.symm (e3.extBut _ _ D.TOz.symm (e2.extBut _ _ D.i1z.symm z1)));have kp:∀ c o,c≠z->c≠TO->c≠i1->c≠i2->s.heap.get? c=some o->g5.get? c=some o:=λc o c1 c2 c3 c4 e=>e5.extBut _ _ c2 (e4.extBut _ _ c4 (e3.extBut _ _ c2 (e2.extBut _ _ c3 (e1.extBut _ _ c1 e))));have r1:g5.IsTupleIter i1 l1 (k + 1):=((r2.extBut e3.extBut D.TOi1.symm).extBut e4.extBut D.i12).extBut e5.extBut D.TOi1.symm;have r5:g5.IsTupleIter i2 l2 (k + 1):=r4.extBut e5.extBut D.TOi2.symm;have zl:z < g5.objs.size:=ß z5;show Ñ _ _ (ownedTupleHandOut (.ref z) (.ref g5.objs.size) >>= _) _ _ _;refine À ?_;unfold ownedTupleHandOut;have z6:Ð2 (g5.push { cls:=.type "tuple",data:=.seq #[x,y] }) z TI TO .ellipsis:=Ä _ z5;refine À (Æ5 z6 (by simp) λg7 z7 e7=>?_)
 replace z7:Ð2 g7 z TI TO (Ç2 g5.objs.size):=z7
 refine Æ5 z7 (by simp) λg8 z8 e8=>?_
 replace z8:Ð2 g8 z TI TO (Ç2 g5.objs.size):=z8
 have up:∀ c o,c≠z->g5.get? c=some o->g8.get? c=some o:=λc o c1 e=>e8.extBut _ _ c1 (e7.extBut _ _ c1 (Ä _ e));have t8:Ä9 g8 g5.objs.size x y:=e8.extBut _ _ (Î5 zl) (e7.extBut _ _ (Î5 zl) (Î _ rfl));have s8:g8.objs.size=g5.objs.size + 1:=by rw[e8.1,e7.1,Í7]
 rw[sz] at z8 t8 s8;refine Ç ⟨_,rfl,?_⟩;refine Ç ?_;show Q (some (.ref g5.objs.size)) _;rw[sz];exact hQ g8 z8 (up _ _ D.TOz t5) (by obtain⟨o,ho,q⟩:=r1;exact⟨o,up _ o D.i1z ho,q⟩) (by obtain⟨o,ho,q⟩:=r5;exact⟨o,up _ o D.i2z ho,q⟩) t8 s8 λc o c1 c2 c3 c4 e=>up c o c1 (kp c o c1 c2 c3 c4 e)
theorem F31{z TI TO i1 i2 l1 l2:Æ}{k:Nat}{xs ys:Array Ã}{a b:Ã}{Q:Option Ã->Å->Prop}(hh:A.handled=none)(D:ZipApart z TI TO i1 i2 l1 l2)(hz:Ð2 s.heap z TI TO .none)
  (hTI:Ä9 s.heap TI (.ref i1) (.ref i2)) (hTO:Ä9 s.heap TO a b) (h1:s.heap.IsTupleIter i1 l1 k) (h2:s.heap.IsTupleIter i2 l2 k) (hl1:s.heap.IsTuple l1 xs) (hl2:s.heap.IsTuple l2 ys)
  (hend:xs[k]?=none∨ys[k]?=none) (hQ:∀ h',(∀ c o,c≠z->c≠TO->c≠i1->c≠i2->s.heap.get? c=some o->h'.get? c=some o)->Q none { s with heap:=h' }):Ñ (Ö P w) A (pyNext (.ref z)) Q E s:=by
 have hT:s.TypeIs (.ref z) "zip":=⟨_,hz,rfl⟩;have fin:∀ (h':æ) (e:Æ),(∀ c o,c≠z->c≠TO->c≠i1->c≠i2->s.heap.get? c=some o->h'.get? c=some o)->(∃ o,h'.get? e=some o/\o.cls=.type "StopIteration") ->
   Ñ (Ö P w) A (isInstance (.ref e) (.type "StopIteration") >>= λb=>if b=true then pure none else throw (.ref e)) Q E { s with heap:=h' }:=λh' e kp he=>by
  obtain⟨o,ho,hc⟩:=he;exact À (wpAny_isInstance (T:="StopIteration") (b:=true) ⟨o,ho,hc⟩ isSubtype_stop (Ç (hQ _ kp)))
 unfold pyNext;refine À (Ñ8 (Á8 (name:=À6 "__next__") hT Ó6 (Ä7 Ó6 hT F.entry_zip_next ?_ (F.args_zip_next_1 _))));show Ñ _ _ (field (.ref z) 2 >>= _) _ _ _;refine À (À4 hz rfl (x:=.bool false) rfl ?_);show Ñ _ _ (field (.ref z) 3 >>= _) _ _ _;refine À (À4 hz rfl (x:=.ref TI) rfl ?_);refine À (Æ2 hTI rfl ?_);show Ñ _ _ (Ë2 (.ref z) >>= _) _ _ _;refine À ?_;unfold Ë2;refine À (À4 hz rfl (x:=.none) rfl (Ç ?_));simp only[if_true];refine À (Ï5 (À (À4 hz rfl (x:=.ref TO) rfl (À (Æ5 hz (by simp) λg1 z1 e1=>?_)))))
 replace z1:Ð2 g1 z TI TO .ellipsis:=z1
 refine À ?_;simp only[List.zipIdx_cons,List.zipIdx_nil,Ë3,Ô4];refine À (À (Ø2 ?_));show Ñ _ _ (nextOf (.ref i1) >>= _) _ _ _;cases hx:xs[k]? with
 |none =>
  refine À (l80 hh (h1.extBut e1.extBut D.i1z) (hl1.extBut e1.extBut D.l1z) hx λg2 e e2 he=>?_);obtain⟨oe,hoe,hce⟩:=he;have z2:Ð2 g2 z TI TO .ellipsis:=e2 _ _ D.i1z.symm z1;have hez:e≠z:=λq=>by subst q;rw[z2] at hoe;cases hoe;simp at hce
  exact Æ5 z2 (by simp) λg3 _ e3=>fin g3 e (λc o c1 _ c3 _ q=>e3.extBut _ _ c1 (e2 _ _ c3 (e1.extBut _ _ c1 q))) ⟨oe,e3.extBut _ _ hez hoe,hce⟩
 |some x =>
  have hy:ys[k]?=none:=by rcases hend with q | q;rw[hx] at q;cases q;exact q
  refine À (q10 (h1.extBut e1.extBut D.i1z) (hl1.extBut e1.extBut D.l1z) hx λg2 r2 e2=>Ç ?_);have t2:Ä9 g2 TO a b:=e2.extBut _ _ D.TOi1 (e1.extBut _ _ D.TOz hTO);refine À (Æ2 t2 rfl (À (Õ2 t2 λg3 t3 e3=>?_)));refine À (wpAny_letGo (Ç ?_));refine À (À (Ø2 ?_));show Ñ _ _ (nextOf (.ref i2) >>= _) _ _ _;refine À (l80 hh (((h2.extBut e1.extBut D.i2z).extBut e2.extBut D.i12.symm).extBut e3.extBut D.TOi2.symm) (((hl2.extBut e1.extBut D.l2z).extBut e2.extBut D.l2i1).extBut e3.extBut D.l2TO) hy λg4 e e4 he=>?_);obtain⟨oe,hoe,hce⟩:=he;have z4:Ð2 g4 z TI TO .ellipsis:=e4 _ _ D.i2z.symm (e3.extBut _ _ D.TOz.symm (e2.extBut _ _ D.i1z.symm z1));have hez:e≠z:=λq=>by subst q;rw[z4] at hoe;cases hoe;simp at hce
  exact Æ5 z4 (by simp) λg5 _ e5=>fin g5 e (λc o c1 c2 c3 c4 q=>e5.extBut _ _ c1 (e4 _ _ c4 (e3.extBut _ _ c2 (e2.extBut _ _ c3 (e1.extBut _ _ c1 q))))) ⟨oe,e5.extBut _ _ hez hoe,hce⟩
abbrev zT1(h:æ)(l1:Æ):Heap:=h.push { cls:=.type "tuple_iterator",data:=.fields #[.ref l1,.int 0 0] }
abbrev zT2(h:æ)(l1 l2:Æ):Heap:=(zT1 h l1).push { cls:=.type "tuple_iterator",data:=.fields #[.ref l2,.int 0 0] }
abbrev zT3(h:æ)(l1 l2:Æ):Heap:=(zT2 h l1 l2).push { cls:=.type "tuple",data:=.seq #[.ref h.objs.size,.ref (zT1 h l1).objs.size] }
abbrev zT4(h:æ)(l1 l2:Æ):Heap:=(zT3 h l1 l2).push { cls:=.type "tuple",data:=.seq #[.none,.none] }
abbrev zT5(h:æ)(l1 l2:Æ):Heap:=(zT4 h l1 l2).push { cls:=.type "zip",data:=.fields #[.none,.bool false,.bool false,.ref (zT2 h l1 l2).objs.size,.ref (zT3 h l1 l2).objs.size] }
theorem l11(l1 l2:Æ)(xs ys:Array Ã) :
  Meets (Ä3.«zip.__new__» ⟨[.type "zip",.ref l1,.ref l2],[]⟩) (λ_ R s=>s.heap.IsTuple l1 xs/\s.heap.IsTuple l2 ys/\R (.ok (.ret (.ref (zT4 s.heap l1 l2).objs.size))) { s with heap:=zT5 s.heap l1 l2 }) :=
 .of_wp λP w A R s h=>by
  obtain⟨hp,g,d,tk,os⟩:=s;obtain⟨hl1,hl2,h⟩:=h;have hsub:=sub_zip;have hL1:Ñ5 (Å.heap ⟨hp,g,d,tk,os⟩) l1 xs:=hl1;have hL2:Ñ5 (Å.heap ⟨hp.push { cls:=.type "tuple_iterator",data:=.fields #[.ref l1,.int 0 0] },g,d,tk,os⟩) l2 ys:=Ñ5.push hl2 _
  wp_walk using É8 hL1,É8 hL2
  exact⟨_,rfl,h⟩
theorem r41{l1 l2:Æ}{xs ys:Array Ã}{Q:Ã->Å->Prop}(hl1:s.heap.IsTuple l1 xs)(hl2:s.heap.IsTuple l2 ys)
  (h:∀ h',Ð2 h' (s.heap.objs.size + 4) (s.heap.objs.size + 2) (s.heap.objs.size + 3) .none->Ä9 h' (s.heap.objs.size + 2) (.ref s.heap.objs.size) (.ref (s.heap.objs.size + 1))->Ä9 h' (s.heap.objs.size + 3) .none .none ->
   h'.IsTupleIter s.heap.objs.size l1 0->h'.IsTupleIter (s.heap.objs.size + 1) l2 0->(∀ c o,s.heap.get? c=some o->h'.get? c=some o)->Q (.ref (s.heap.objs.size + 4)) { s with heap:=h' }) :
  Ñ (Ö P w) A (call (.type "zip") [.ref l1,.ref l2]) Q E s:=by
 refine callType_new F.called_zip (-0) (F.typeCall_zip_2 _ _) (F.newCall_zip_2 _ _) (λobj=>F.args_object_init_3 obj _ _) F.entry_zip_new (l11 l1 l2 xs ys) ⟨hl1,hl2,?_⟩
 have n1:(zT1 s.heap l1).objs.size=s.heap.objs.size + 1:=Í7 ..;have n2:(zT2 s.heap l1 l2).objs.size=s.heap.objs.size + 2:=by rw[Í7,n1]
 have n3:(zT3 s.heap l1 l2).objs.size=s.heap.objs.size + 3:=by rw[Í7,n2]
 have n4:(zT4 s.heap l1 l2).objs.size=s.heap.objs.size + 4:=by rw[Í7,n3]
 have g5:(zT5 s.heap l1 l2).get? (zT4 s.heap l1 l2).objs.size=some _:=Î _ rfl;have g4:(zT5 s.heap l1 l2).get? (zT3 s.heap l1 l2).objs.size=some _:=Ä _ (Î _ rfl);have g3:(zT5 s.heap l1 l2).get? (zT2 s.heap l1 l2).objs.size=some _:=Ä _ (Ä _ (Î _ rfl));have g2:(zT5 s.heap l1 l2).get? (zT1 s.heap l1).objs.size=some _:=Ä _ (Ä _ (Ä _ (Î _ rfl)));have g1:(zT5 s.heap l1 l2).get? s.heap.objs.size=some _:=Ä _ (Ä _ (Ä _ (Ä _ (Î _ rfl))));show _/\_;rw[n2,n3,n4] at g5;rw[n1,n2] at g3;rw[n3] at g4;rw[n1] at g2;rw[n4];exact⟨⟨_,g5,rfl⟩,h _ g5 g3 g4 ⟨_,g1,rfl,rfl⟩ ⟨_,g2,rfl,rfl⟩ λc o q=>Ä _ (Ä _ (Ä _ (Ä _ (Ä _ q))))⟩
end
open PySem PySem.Spec PyProof.Rows
section
variable {X:Cx}{pins:List (Æ × Obj)}{σ:St}{H:Hp}{s:Å}{h':æ}
theorem Inv.J80{t':Nat}{ch:List Æ}(I:Inv X pins σ H s)(hf:∀ b∈ch,X70 X pins H b)(k:∀ b o,b ∉ ch->s.heap.get? b=some o->h'.get? b=some o):Inv X pins σ H { s with heap:=h',toks:=t' }:=by
 have nch:∀ b u,H b=some u->b ∉ ch:=λb u e z=>by rw[(hf b z).1] at e;cases e
 refine I.step (g':=s.gens) (d':=s.drawn) (ch:=ch) (λb hb=>⟨(hf b hb).2.2.2.1,(hf b hb).2.1,(hf b hb).2.2.2.2.1,(hf b hb).2.2.2.2.2⟩) (λb o _ _ hc e _=>k b o hc e) (λb o _ _ hc e _=>⟨o.slots,k b o hc e⟩) (λ_ _ _ _ n=>n)
  (λb o hc e=>⟨o,k b o hc e⟩) (λ_ _ e=>e) (λ_ _ _ e=>e) (λb ps e=>⟨#[],by rw[e];simp⟩) (λm hm=>?_) (λb u e=>?_) I.bare
 ·obtain⟨o,es,ep,ho,r⟩:=hm;exact⟨o,es,ep,k _ o (λz=>(hf _ z).2.1 rfl) ho,r⟩
 ·refine(I.hok b u e).k41 (λc v hc q=>k c v ?_ q) (λ_ q=>q) λ_ _ q=>q;rcases hc with z | z
  ·rw[z];exact nch b u e
  ·exact nch c _ z
theorem Inv.F11{T:Æ}{o:HO}(I:Inv X pins σ H s)(f:X70 X pins H T)(h0:X.s₀.heap.objs.size<=T)(hok:HOk X.prog X.w (upd H T o) s.heap):Inv X pins σ (upd H T o) s:=by
 have u:=I.base;refine⟨I.ok,I.os,I.bare,⟨u.keep,u.slot,λb ob e n hx=>?_,u.there,λb xs e=>?_,λb ob xs e=>?_,λb ps e=>?_⟩,I.loc,I.cell,?_,λx c e=>?_,λp hp=>?_,hok,I.len⟩
 ·rw[a40 (å (Ù (ß e) h0))];exact u.free b ob e n hx
 ·have z:=u.tups b xs e;rw[a40 (a80 z f.1)];exact z
 ·have z:=u.frzs b ob xs e;rw[a40 (a80 z f.1)];exact z
 ·obtain⟨more,z⟩:=u.tbls b ps e;exact⟨more,by rw[a40 (a80 z f.1)];exact z⟩
 ·rw[a40 f.2.1.symm];exact I.free
 ·rw[a40 (f.2.2.2.2.1 x c e)];exact I.freeC x c e
 ·obtain⟨e,n,r⟩:=I.pin p hp;exact⟨e,by rw[a40 (f.2.2.2.2.2 p hp)];exact n,r⟩
theorem HOk.O81{P:Ü}{w:ì}{H:Hp}{h:æ}{D:Æ}{ys:List V}{its:List Ã}(x:HOk P w H h)(hn:H D=none)(hv:Vals ys its)(hz:ys.length<=sizeLine)(ho:Í3 h D its.toArray):HOk P w (upd H D (.tup ys)) h:=λb u e=>by
 by_cases hb:b=D
 ·subst hb;rw[a90] at e;cases e;exact⟨hz,its,hv,ho⟩
 ·rw[a40 hb] at e;exact(x b u e).k41 (λc v _ q=>q) (λc q=>by rw[a40 (a80 q hn)];exact q) λc xs q=>by rw[a40 (a80 q hn)];exact q
end
def SqB:Bool->Â->Hp->Æ->List V->Prop
 |true=>SqL|false=>SqT
def Q70:Bool->æ->Æ->Æ->Nat->Prop
 |true=>æ.IsListIter|false=>æ.IsTupleIter
def F41:Bool->æ->Æ->Array Ã->Prop
 |true=>æ.IsList|false=>Ñ5
theorem Q70.obj{b:Bool}{h:æ}{it a:Æ}{i:Nat}(st:Q70 b h it a i):∃ o,h.get? it=some o/\(∀ v,o.data=.cell v->False)/\∀ h':æ,h'.get? it=some o->Q70 b h' it a i:=by
 cases b with
 |true=>obtain⟨o,g,c,d⟩:=st;exact⟨o,g,(λv e=>by rw[d] at e;cases e),λh' k=>⟨o,k,c,d⟩⟩
 |false=>obtain⟨o,g,c,d⟩:=st;exact⟨o,g,(λv e=>by rw[d] at e;cases e),λh' k=>⟨o,k,c,d⟩⟩
theorem Inv.F51(I:Inv X pins σ H s)(h:SqB b X.K H a xs):∃ its:List Ã,Vals xs its/\F41 b s.heap a its.toArray/\a < s.heap.objs.size/\∀ ys,SqB b X.K H a ys->ys=xs:=by
 cases b with
 |true=>obtain⟨its,r,p,_⟩:=I.list h;exact⟨its,r,p.isList,by obtain⟨o,e,_⟩:=p.isList;exact ß e,λys h'=>I.d81 h' h⟩
 |false=>obtain⟨its,r,p,_⟩:=I.tuple h;exact⟨its,r,p,by obtain⟨o,e,_⟩:=p;exact ß e,λys h'=>I.P00 h' h⟩
section
variable {P:Ü}{w:ì}{A:ö}{E:Ã->Å->Prop}{s:Å}{b:Bool}{z TI TO i1 i2 l1 l2:Æ}{k:Nat}{xs ys:Array Ã}{x y p q:Ã}
theorem r51{Q:Option Ã->Å->Prop}(D:ZipApart z TI TO i1 i2 l1 l2)(hz:Ð2 s.heap z TI TO .none)(hTI:Ä9 s.heap TI (.ref i1) (.ref i2))(hTO:Ä9 s.heap TO p q)(h1:Q70 b s.heap i1 l1 k)(h2:Q70 b s.heap i2 l2 k)(hl1:F41 b s.heap l1 xs)(hl2:F41 b s.heap l2 ys)(hx:xs[k]?=some x)(hy:ys[k]?=some y)
  (hQ:∀ h',Ð2 h' z TI TO (Ç2 s.heap.objs.size)->Ä9 h' TO x y->Q70 b h' i1 l1 (k + 1)->Q70 b h' i2 l2 (k + 1)->Ä9 h' s.heap.objs.size x y->h'.objs.size=s.heap.objs.size + 1 ->
   (∀ c o,c≠z->c≠TO->c≠i1->c≠i2->s.heap.get? c=some o->h'.get? c=some o)->Q (some (.ref s.heap.objs.size)) { s with heap:=h' }):Ñ (Ö P w) A (pyNext (.ref z)) Q E s:=match b,h1,h2,hl1,hl2,hQ with
 |true,h1,h2,hl1,hl2,hQ=>wpAny_pyNext_zip_item D hz hTI hTO h1 h2 hl1 hl2 hx hy hQ|false,h1,h2,hl1,hl2,hQ=>r31 D hz hTI hTO h1 h2 hl1 hl2 hx hy hQ
theorem F61{Q:Option Ã->Å->Prop}(hh:A.handled=none)(D:ZipApart z TI TO i1 i2 l1 l2)(hz:Ð2 s.heap z TI TO .none)(hTI:Ä9 s.heap TI (.ref i1) (.ref i2))(hTO:Ä9 s.heap TO p q)(h1:Q70 b s.heap i1 l1 k)(h2:Q70 b s.heap i2 l2 k)(hl1:F41 b s.heap l1 xs)(hl2:F41 b s.heap l2 ys)
  (hend:xs[k]?=none∨ys[k]?=none) (hQ:∀ h',(∀ c o,c≠z->c≠TO->c≠i1->c≠i2->s.heap.get? c=some o->h'.get? c=some o)->Q none { s with heap:=h' }):Ñ (Ö P w) A (pyNext (.ref z)) Q E s:=match b,h1,h2,hl1,hl2 with
 |true,h1,h2,hl1,hl2=>wpAny_pyNext_zip_end hh D hz hTI hTO h1 h2 hl1 hl2 hend hQ|false,h1,h2,hl1,hl2=>F31 hh D hz hTI hTO h1 h2 hl1 hl2 hend hQ
theorem r61{Q:Ã->Å->Prop}(hl1:F41 b s.heap l1 xs)(hl2:F41 b s.heap l2 ys)
  (h:∀ h',Ð2 h' (s.heap.objs.size + 4) (s.heap.objs.size + 2) (s.heap.objs.size + 3) .none->Ä9 h' (s.heap.objs.size + 2) (.ref s.heap.objs.size) (.ref (s.heap.objs.size + 1))->Ä9 h' (s.heap.objs.size + 3) .none .none ->
   Q70 b h' s.heap.objs.size l1 0->Q70 b h' (s.heap.objs.size + 1) l2 0->(∀ c o,s.heap.get? c=some o->h'.get? c=some o)->Q (.ref (s.heap.objs.size + 4)) { s with heap:=h' }):Ñ (Ö P w) A (call (.type "zip") [.ref l1,.ref l2]) Q E s:=match b,hl1,hl2,h with
 |true,hl1,hl2,h=>call_zip_2 hl1 hl2 λh' a1 a2 a3 a4 a5 _ a6=>h h' a1 a2 a3 a4 a5 a6|false,hl1,hl2,h=>r41 hl1 hl2 h
end
def Itz(b:Bool)(K:Â)(a c:Æ):It :=
 ⟨λi H=>∃ xs ys x y,SqB b K H a xs/\SqB b K H c ys/\xs[i]?=some x/\ys[i]?=some y,
  λi H v H'=>∃ T,v=.ref T/\H T=none/\∀ xs ys x y,SqB b K H a xs->SqB b K H c ys->xs[i]?=some x->ys[i]?=some y->H'=upd H T (.tup [x,y]),
  λi H=>∃ xs ys,SqB b K H a xs/\SqB b K H c ys/\(xs.length<=i∨ys.length<=i)⟩
theorem F71{P:Ü}{w:ì}{K:Â}{es:List Ï}{ek:Nat}{ep:Pos}{b:Bool}{a c z TI TO i1 i2:Æ}(D:ZipApart z TI TO i1 i2 a c) :
  Turn P w K (.Tuple es ek ep) (Itz b K a c) [z,TI,TO,i1,i2] z (λi h=>Ð2 h z TI TO .none/\Ä9 h TI (.ref i1) (.ref i2)/\(∃ p q,Ä9 h TO p q)/\Q70 b h i1 a i/\Q70 b h i2 c i) where
 mem:=by simp
 obj:=λi h st c hc=>by
  obtain⟨hz,hTI,⟨p,q,hTO⟩,h1,h2⟩:=st;obtain⟨o1,h1,d1,_⟩:=h1.obj;obtain⟨o2,h2,d2,_⟩:=h2.obj;simp only[Á7,Á6,or_false] at hc;rcases hc with rfl | rfl | rfl | rfl | rfl
  ·exact⟨_,hz,λv e=>by cases e⟩
  ·exact⟨_,hTI,λv e=>by cases e⟩
  ·exact⟨_,hTO,λv e=>by cases e⟩
  ·exact⟨_,h1,d1⟩
  ·exact⟨_,h2,d2⟩
 keep:=λi h h' st k=>by
  obtain⟨hz,hTI,⟨p,q,hTO⟩,h1,h2⟩:=st;obtain⟨o1,h1,_,r1⟩:=h1.obj;obtain⟨o2,h2,_,r2⟩:=h2.obj;exact⟨k z (by simp) _ hz,k TI (by simp) _ hTI,⟨p,q,k TO (by simp) _ hTO⟩,r1 _ (k i1 (by simp) _ h1),r2 _ (k i2 (by simp) _ h2)⟩
 item:=by
  intro X hP hw hK hc i pins s σ H E I hf st hg;subst hP hw hK;obtain⟨xs,ys,x,y,hq1,hq2,hx,hy⟩:=hg;obtain⟨v1,rv1,p1,_,z1⟩:=I.F51 hq1;obtain⟨v2,rv2,p2,_,z2⟩:=I.F51 hq2;obtain⟨u1,hu1,ru1⟩:=rv1.get hx;obtain⟨u2,hu2,ru2⟩:=rv2.get hy;obtain⟨hz,hTI,⟨p,q,hTO⟩,h1,h2⟩:=st;refine r51 D hz hTI hTO h1 h2 p1 p2 (x:=u1) (y:=u2) (by simpa using hu1) (by simpa using hu2) λg1 gz gTO g1' g2' gT gs kp=>⟨_,rfl,?_⟩
  refine wpAny_letOwnedTupleGo_zip (s:={ s with heap:=g1 }) gz λg2 gz2 sb=>?_;have hT:H s.heap.objs.size=none:=I.hok.fresh (Ë _);have kall:∀ c o,c ∉ [z,TI,TO,i1,i2]->s.heap.get? c=some o->g2.get? c=some o:=λc o hc e=>by
   simp only[Á7,Á6,or_false,not_or] at hc;exact sb.extBut _ _ hc.1 (kp c o hc.1 hc.2.2.1 hc.2.2.2.1 hc.2.2.2.2 e)
  have I2:Inv X pins σ H { s with heap:=g2 }:=I.J80 (t':=s.toks) hf kall;have fT:X70 X pins H s.heap.objs.size:=I.o21 (Ë _) hT;have gT2:g2.get? s.heap.objs.size=some { cls:=.type "tuple",data:=.seq #[u1,u2] }:=sb.extBut _ _ (λe=>À3 _ (by have:=ß hz;rw[← e] at this;exact this)) gT
  have I3:Inv X pins σ (upd H s.heap.objs.size (.tup [x,y])) { s with heap:=g2 }:=I2.F11 fT I.sz (I2.hok.O81 hT (its:=[u1,u2]) (.cons ru1 (.cons ru2 .nil)) (by show 2<=sizeLine;rw[Á4];decide) ⟨_,gT2,rfl,_,rfl⟩)
  have TI0:Ä9 g2 TI (.ref i1) (.ref i2):=sb.extBut _ _ D.TIz (kp _ _ D.TIz D.TITO D.TIi1 D.TIi2 hTI);obtain⟨o1,w1,_,r1⟩:=g1'.obj;obtain⟨o2,w2,_,r2⟩:=g2'.obj;refine⟨.ref s.heap.objs.size,_,I3,rfl,⟨_,rfl,hT,λxs' ys' x' y' e1 e2 e3 e4=>?_⟩,⟨gz2,TI0,⟨_,_,sb.extBut _ _ D.TOz gTO⟩,r1 _ (sb.extBut _ _ D.i1z w1),r2 _ (sb.extBut _ _ D.i2z w2)⟩,λc hc=>?_⟩
  ·rw[z1 _ e1] at e3;rw[z2 _ e2] at e4;rw[hx] at e3;rw[hy] at e4;cases e3;cases e4;rfl
  ·rw[a40]
   ·exact(hf c hc).1
   ·intro e;obtain⟨o1,h1,_⟩:=h1.obj;obtain⟨o2,h2,_⟩:=h2.obj;have lt:c < s.heap.objs.size:=by
     simp only[Á7,Á6,or_false] at hc;rcases hc with rfl | rfl | rfl | rfl | rfl
     ·exact ß hz
     ·exact ß hTI
     ·exact ß hTO
     ·exact ß h1
     ·exact ß h2
    rw[e] at lt;exact À3 _ lt
 done:=by
  intro X hP hw hK hc i pins s σ H E I hf st hg;subst hP hw hK;obtain⟨xs,ys,hq1,hq2,hend⟩:=hg;obtain⟨v1,rv1,p1,_⟩:=I.F51 hq1;obtain⟨v2,rv2,p2,_⟩:=I.F51 hq2;obtain⟨hz,hTI,⟨p,q,hTO⟩,h1,h2⟩:=st;have l1:=rv1.length;have l2:=rv2.length;refine F61 (I.ok.hd hc) D hz hTI hTO h1 h2 p1 p2 (hend.elim (λe=>.inl (by simp;omega)) λe=>.inr (by simp;omega)) λg kp=>⟨rfl,I.J80 (t':=s.toks) hf λc o hcn e=>?_⟩
  simp only[Á7,Á6,or_false,not_or] at hcn;exact kp c o hcn.1 hcn.2.2.1 hcn.2.2.2.1 hcn.2.2.2.2 e
 self:=λ_ _ _ _ _ st h=>wpAny_pyIter_zip st.1 h
def M12(K:Â)(ta:TA):TI:=λσ H R=>ta σ H λvs H1=>∃ b a c,vs=[.ref a,.ref c]/\(∃ xs,SqB b K H1 a xs)/\(∃ ys,SqB b K H1 c ys)/\R (Itz b K a c) H1
theorem boot_zip:è "zip"=some (.type "zip"):=by decide +kernel
theorem j12{X:Cx}{a b:Ï}{es:List Ï}{ek:Nat}{ep:Pos}{ta:TA}{p pos:Pos}(hg:Gl X "zip")(hm:X.mg "zip"=none)(ha:PA X [a,b] ta)(hs:ó [a,b] X.env=[(false,eval a X.env),(false,eval b X.env)]:=by rfl)(hs2:ó [b] X.env=[(false,eval b X.env)]:=by rfl) :
  PI X (.Tuple es ek ep) (.Call (.Name "zip" p) [a,b] [] pos) (M12 X.K ta):=by
 intro pins s σ H R I h;refine Call_ (u30 I hg hm boot_zip (À0 (thn (ha pos pins s σ H _ I h) λus s1 ⟨vs,H1,I1,r1,q1⟩=>?_) (by rw[hs,hs2]) (by rw[hs2];rfl)))
 obtain⟨b,l1,l2,e,⟨xs,hq1⟩,⟨ys,hq2⟩,q⟩:=q1;subst e;obtain⟨u,w',rfl,r,r'⟩:=vals2 r1;cases r;cases r';obtain⟨v1,rv1,p1,a1,_⟩:=I1.F51 hq1;obtain⟨v2,rv2,p2,a2,_⟩:=I1.F51 hq2;refine r61 p1 p2 λh' hz hTI hTO h1 h2 kp=>wpAny_pyIter_zip (s:={ s1 with heap:=h' }) hz ?_;refine⟨_,[s1.heap.objs.size + 4,s1.heap.objs.size + 2,s1.heap.objs.size + 3,s1.heap.objs.size,s1.heap.objs.size + 1],_,_,H1,rfl,I1.kept (t':=s1.toks) kp,F71 (PyProof.Rows.zipApart_new a1 a2),⟨hz,hTI,⟨_,_,hTO⟩,h1,h2⟩,λc hc=>?_,q⟩;have hc':s1.heap.objs.size<=c:=by
  simp only[Á7,Á6,or_false] at hc;rcases hc with rfl | rfl | rfl | rfl | rfl
  ·exact È0 _ 4
  ·exact È0 _ 2
  ·exact È0 _ 3
  ·exact Ë _
  ·exact È0 _ 1
 exact I1.o21 hc' (I1.hok.fresh hc')
theorem F81(hc:X.calm=true):f50 X (.builtin "all") (λxs H Q=>∃ (a:Æ) (bs:List Bool),xs=[.ref a]/\SqL X.K H a (bs.map V.bl)/\Q (.bl (bs.all id)) H):=by
 intro pins s σ H xs us Q I r h;obtain⟨a,bs,rfl,hq,q⟩:=h;obtain⟨u,rfl,rx⟩:=vals1 r;cases rx;obtain⟨its,rv,pl,hz⟩:=I.list hq;have hlt:a < s.heap.objs.size:=by obtain⟨_,e,_⟩:=pl.isList;exact ß e
 have hlen:its.length=bs.length:=by have:=rv.length;simpa using this.symm
 refine call_all_walk (wpAny_pyIter_list pl.isList ⟨_,_,_,_,_,_,λi=>(bs[i]?).getD true,rfl,Walks.list (by exact I.ok.hd hc) s.heap.objs.size a (å hlt) its.toArray,⟨⟨_,Î _ rfl,rfl,rfl⟩,pl.isList.push _⟩,?_,?_⟩)
 ·intro i v s' Q' E' hP hQ;have hP':its[i]?=some v:=by simpa using hP
  have hi:i < bs.length:=by rw[← hlen];exact(Ú.mp hP').1
  obtain⟨v',hv',rv'⟩:=rv.get (i:=i) (x:=.bl bs[i]) (by simp[hi])
  rw[hP'] at hv';cases hv';cases (show v=Ì9 _ from rv');exact Á3 (by simpa [hi] using hQ)
 ·intro h' tk kp;refine⟨.bl (bs.all id),H,I.kept λb o e=>kp b o (by simpa using å (ß e)) (Ä _ e),?_,q⟩
  show Ì9 _=Ì9 _;rw[Õ,hlen,PyProof.Rows.LSm.range_all]
end L2
namespace MySort
open PySem PySem.W PyProof.Rows
def run{α:Type}(cmp:Nat->Nat->Bool):KasT α->α
 |.ret a=>a|.ask i j k=>run cmp (k (cmp i j))
theorem run_bind(cmp:Nat->Nat->Bool)(f:α->KasT β):∀ t:KasT α,run cmp (t.bind f)=run cmp (f (run cmp t))
 |.ret _=>rfl|.ask i j k=>run_bind cmp f (k (cmp i j))
section
variable (O:KeyOrd) (key:Nat->O.α)
def kk(p:Array Nat)(i:Nat):O.α:=key (p.getD i 0)
abbrev k60:Nat->Nat->Bool:=λi j=>O.blt (key i) (key j)
def Up(p:Array Nat)(n:Nat):Prop:=∀ i j,i<=j->j < n->O.kle (kk O key p i) (kk O key p j)
def Dn(p:Array Nat)(n:Nat):Prop:=∀ i j,i<=j->j < n->O.kle (kk O key p j) (kk O key p i)
variable {O key}
theorem u40(h:p[i]?=q[j]?):kk O key p i=kk O key q j:=by
 unfold kk;rw[Ì4,Ì4,h]
theorem r71(hj:j<=p.size)(k:Nat):kk O key (Æ7 p i j) k=if i<=k/\k < j then kk O key p (i + j - 1 - k) else kk O key p k:=by
 have e:=getElem?_mirror_all (i:=i) hj k;unfold Æ7;by_cases h1:i<=k/\k < j
 ·rw[if_pos h1] at e ⊢;exact u40 e
 ·rw[if_neg h1] at e ⊢;exact u40 e
theorem j22(hs:k < p.size)(hd:d<=k)(i:Nat) :
  kk O key (bubble p k d) i=if i=k - d then kk O key p k else if k - d < i/\i<=k then kk O key p (i - 1) else kk O key p i:=by
 have e:=getElem?_bubble hs d hd i;by_cases h1:i=k - d
 ·rw[if_pos h1] at e ⊢;exact u40 e
 ·rw[if_neg h1] at e ⊢;by_cases h2:k - d < i/\i<=k
  ·rw[if_pos h2] at e ⊢;exact u40 e
  ·rw[if_neg h2] at e ⊢;exact u40 e
theorem Up.more(h:Up O key p n)(h1:1<=n)(hl:O.kle (kk O key p (n - 1)) (kk O key p n)):Up O key p (n + 1):=by
 intro i j hij hj;by_cases e:j=n
 ·subst e;by_cases e2:i=j
  ·subst e2;exact Æ1 _
  ·exact Ö3 (h i (j - 1) ∅ ∅) hl
 ·exact h i j hij ∅
theorem Dn.more(h:Dn O key p n)(h1:1<=n)(hl:O.kle (kk O key p n) (kk O key p (n - 1))):Dn O key p (n + 1):=by
 intro i j hij hj;by_cases e:j=n
 ·subst e;by_cases e2:i=j
  ·subst e2;exact Æ1 _
  ·exact Ö3 hl (h i (j - 1) ∅ ∅)
 ·exact h i j hij ∅
theorem r81:∀ (f n:Nat),1<=n->Up O key p n ->
  n<=run (k60 O key) (Æ8 p f n)/\run (k60 O key) (Æ8 p f n)<=n + f/\Up O key p (run (k60 O key) (Æ8 p f n)) /\
   (run (k60 O key) (Æ8 p f n) < n + f->O.klt (kk O key p (run (k60 O key) (Æ8 p f n))) (kk O key p (run (k60 O key) (Æ8 p f n) - 1)))
 |0,n,h1,hu=>⟨Ë _,Ë _,hu,λh=>absurd h (À3 _)⟩
 |f + 1,n,h1,hu=>by
  show n<=run _ (if O.blt (kk O key p n) (kk O key p (n - 1))=true then Ð7 n else Æ8 p f (n + 1))/\run _ (if O.blt (kk O key p n) (kk O key p (n - 1))=true then Ð7 n else Æ8 p f (n + 1))<=n + (f + 1) /\
   Up O key p (run _ (if O.blt (kk O key p n) (kk O key p (n - 1))=true then Ð7 n else Æ8 p f (n + 1))) /\
   (run _ (if O.blt (kk O key p n) (kk O key p (n - 1))=true then Ð7 n else Æ8 p f (n + 1)) < n + (f + 1) ->
    O.klt (kk O key p (run _ (if O.blt (kk O key p n) (kk O key p (n - 1))=true then Ð7 n else Æ8 p f (n + 1)))) (kk O key p (run _ (if O.blt (kk O key p n) (kk O key p (n - 1))=true then Ð7 n else Æ8 p f (n + 1)) - 1)))
  cases hb:O.blt (kk O key p n) (kk O key p (n - 1)) with
  |true =>
   simp only[if_true];exact⟨Ë _,by show n<=n + (f + 1);omega,hu,λ_=>hb⟩
  |false =>
   simp only[È7,if_false];have ih:=r81 f (n + 1) ∅ (hu.more h1 hb)
   refine⟨by omega,by omega,ih.2.2.1,λh=>ih.2.2.2 ∅⟩
theorem rev_eq(hj:j<=p.size)(he:∀ k,i<=k->k < j->kk O key p k=kk O key p (j - 1))(k:Nat):kk O key (Æ7 p i j) k=kk O key p k:=by
 rw[r71 hj];split
 ·rw[he _ ∅ ∅,he k ∅ ∅]
 ·rfl
theorem J90(p:Array Nat)(i j:Nat):(Æ7 p i j).Perm p:=mirror_perm _ _ _ _
theorem K00(p:Array Nat)(i j:Nat):(Æ7 p i j).size=p.size:=mirror_size _ _ _ _
structure DnR(O:KeyOrd)(key:Nat->O.α)(p0 p:Array Nat)(n q:Nat):Prop where
 perm:p.Perm p0
 size:p.size=p0.size
 pos:q + 1<=n
 dn:Dn O key p n
 eq:∀ k,n - (q + 1)<=k->k < n->kk O key p k=kk O key p (n - 1)
theorem DnR.rev(h:DnR O key p0 p n q)(hn:n<=p0.size):DnR O key p0 (Æ7 p (n - (q + 1)) n) n q:=by
 have hz:=h.size;have e:=rev_eq (O:=O) (key:=key) (i:=n - (q + 1)) (j:=n) (p:=p) ∅ h.eq
 exact⟨(J90 _ _ _).trans h.perm,(K00 _ _ _).trans hz,h.pos,λi j hij hj=>by rw[e,e];exact h.dn i j hij hj,λk h1 h2=>by rw[e,e];exact h.eq k h1 h2⟩
theorem Y10:∀ (f:Nat) (p:Array Nat) (n q:Nat),DnR O key p0 p n q->n + f<=p0.size ->
  n<=(run (k60 O key) (Á9 f p n q)).2.1/\(run (k60 O key) (Á9 f p n q)).2.1<=n + f /\
   DnR O key p0 (run (k60 O key) (Á9 f p n q)).1 (run (k60 O key) (Á9 f p n q)).2.1 (run (k60 O key) (Á9 f p n q)).2.2
 |0,p,n,q,h,_=>⟨Ë _,Ë _,h⟩
 |f + 1,p,n,q,h,hn=>by
  have hp:=h.pos;have hz:=h.size;have unf:run (k60 O key) (Á9 (f + 1) p n q)=run (k60 O key) (if O.blt (kk O key p n) (kk O key p (n - 1))=true then(if q > 0 then Á9 f (Æ7 p (n - (q + 1)) n) (n + 1) 0 else Á9 f p (n + 1) 0)
   else .ask (p.getD (n - 1) 0) (p.getD n 0) λd=>if d=true then .ret (p,n,q) else Á9 f p (n + 1) (q + 1)):=rfl
  rw[unf];cases hb:O.blt (kk O key p n) (kk O key p (n - 1)) with
  |true =>
   simp only[if_true];have go:∀ p',DnR O key p0 p' n q->(∀ k,kk O key p' k=kk O key p k)->n<=(run (k60 O key) (Á9 f p' (n + 1) 0)).2.1/\(run (k60 O key) (Á9 f p' (n + 1) 0)).2.1<=n + (f + 1) /\
     DnR O key p0 (run (k60 O key) (Á9 f p' (n + 1) 0)).1 (run (k60 O key) (Á9 f p' (n + 1) 0)).2.1 (run (k60 O key) (Á9 f p' (n + 1) 0)).2.2:=λp' h' e=>by
    have ih:=Y10 f p' (n + 1) 0 ⟨h'.perm,h'.size,by omega,h'.dn.more ∅ (by rw[e,e];exact Î2 hb),λk h1 h2=>by
     have:k=n:=by omega
     subst this;rfl⟩ ∅
    exact⟨by omega,by omega,ih.2.2⟩
   split
   ·exact go _ (h.rev ∅) (rev_eq ∅ h.eq)
   ·exact go _ h λ_=>rfl
  |false =>
   simp only[È7,if_false];have unf2:run (k60 O key) (KasT.ask (p.getD (n - 1) 0) (p.getD n 0) λd=>if d=true then .ret (p,n,q) else Á9 f p (n + 1) (q + 1)) =
    run (k60 O key) (if O.blt (kk O key p (n - 1)) (kk O key p n)=true then .ret (p,n,q) else Á9 f p (n + 1) (q + 1)):=rfl
   rw[unf2];cases hc:O.blt (kk O key p (n - 1)) (kk O key p n) with
   |true =>
    simp only[if_true];exact⟨Ë _,by show n<=n + (f + 1);omega,h⟩
   |false =>
    simp only[È7,if_false];have e:kk O key p n=kk O key p (n - 1):=O.total _ _ hb hc;have ih:=Y10 f p (n + 1) (q + 1) ⟨h.perm,h.size,by omega,h.dn.more ∅ (by rw[e];exact Æ1 _),λk h1 h2=>by
     show _=kk O key p n;by_cases hk:k=n
     ·rw[hk]
     ·rw[e];exact h.eq k ∅ ∅⟩ ∅
    exact⟨by omega,by omega,ih.2.2⟩
structure y12(O:KeyOrd)(key:Nat->O.α)(p0:Array Nat)(nrem:Nat)(r:Nat × Array Nat):Prop where
 perm:r.2.Perm p0
 size:r.2.size=p0.size
 lo:1<=r.1
 hi:r.1<=nrem
 up:Up O key r.2 r.1
theorem e51(hp:p.Perm p0)(hz:p.size=p0.size)(hd:Dn O key p n)(h1:1<=n)(hn:n<=nrem)(hr:nrem<=p0.size):y12 O key p0 nrem (run (k60 O key) (kas_tail3 n nrem p)):=by
 unfold kas_tail3;rw[run_bind];have hu:Up O key (Æ7 p 0 n) n:=λi j hij hj=>by
  rw[r71 ∅,r71 ∅,if_pos ∅,if_pos ∅]
  exact hd _ _ ∅ ∅
 have a:=r81 (O:=O) (key:=key) (p:=Æ7 p 0 n) (nrem - n) n h1 hu;exact⟨(J90 _ _ _).trans hp,(K00 _ _ _).trans hz,by show 1<=run _ (Æ8 _ _ _);omega,by show run _ (Æ8 _ _ _)<=_;omega,a.2.2.1⟩
theorem D00(hp:p.Perm p0)(hz:p.size=p0.size)(hd:Dn O key p (n + 1))(hn:n + 1<=nrem)(hr:nrem<=p0.size):y12 O key p0 nrem (run (k60 O key) (Ï0 n nrem p)):=by
 unfold Ï0;rw[run_bind];have d:=Y10 (O:=O) (key:=key) (p0:=p0) (nrem - (n + 1)) p (n + 1) 0 ⟨hp,hz,by omega,hd,λk h1 h2=>by
  have:k=n:=by omega
  subst this;rfl⟩ ∅
 obtain⟨d1,d2,d3⟩:=d;have hpos:=d3.pos;split
 ·have d4:=d3.rev ∅
  exact e51 d4.perm d4.size d4.dn ∅ ∅ hr
 ·exact e51 d3.perm d3.size d3.dn ∅ ∅ hr
theorem F91(h1:1<=nrem)(hr:nrem<=p.size):y12 O key p nrem (run (k60 O key) (Û7 nrem p)):=by
 unfold Û7;rw[run_bind];have a:=r81 (O:=O) (key:=key) (p:=p) (nrem - 1) 1 (Ë _) (λi j hij hj=>by
  have:i=j:=by omega
  subst this;exact Æ1 _)
 generalize run (k60 O key) (Æ8 p (nrem - 1) 1)=n at a ⊢;obtain⟨a1,a2,a3,a4⟩:=a;split
 ·exact⟨Ê8 _,rfl,a1,by show n<=nrem;omega,a3⟩
 ·rename_i hne;have hlt:n < nrem:=by
   have:n≠nrem:=by simpa using hne
   omega
  have hl:=a4 ∅
  split
  ·rename_i h2;have unf:run (k60 O key) (KasT.ask (p.getD 0 0) (p.getD (n - 1) 0) λc=>if c=true then .ret (n,p) else Ï0 n nrem (Æ7 p 0 n)) =
    run (k60 O key) (if O.blt (kk O key p 0) (kk O key p (n - 1))=true then .ret (n,p) else Ï0 n nrem (Æ7 p 0 n)):=rfl
   rw[unf];cases hb:O.blt (kk O key p 0) (kk O key p (n - 1)) with
   |true =>
    simp only[if_true];exact⟨Ê8 _,rfl,a1,by show n<=nrem;omega,a3⟩
   |false =>
    simp only[È7,if_false];have e0:kk O key p 0=kk O key p (n - 1):=O.total _ _ hb (a3 0 (n - 1) ∅ ∅)
    have e:∀ k,0<=k->k < n->kk O key p k=kk O key p (n - 1):=λk _ hk=>by
     refine KeyOrd.kle_antisymm (a3 k (n - 1) ∅ ∅) ?_
     rw[← e0];exact a3 0 k ∅ hk
    have er:=rev_eq (O:=O) (key:=key) (i:=0) (j:=n) (p:=p) ∅ e
    refine D00 (J90 _ _ _) (K00 _ _ _) ?_ ∅ hr
    have dn:Dn O key (Æ7 p 0 n) n:=λi j hij hj=>by
     rw[er,er,e i ∅ ∅,e j ∅ ∅];exact Æ1 _
    refine dn.more a1 ?_;rw[er,er];exact Î2 hl
  ·have h2:n=1:=by omega
   subst h2;refine D00 (Ê8 _) rfl ?_ ∅ hr
   have dn:Dn O key p 1:=λi j hij hj=>by
    have:i=j:=by omega
    subst this;exact Æ1 _
   exact dn.more (Ë _) (Î2 hl)
theorem K10(hu:Up O key p k):∀ (f l r:Nat),l<=r->r<=k->r - l<=f->(∀ i,i < l->O.kle (kk O key p i) (kk O key p k))->(∀ i,r<=i->i < k->O.klt (kk O key p k) (kk O key p i)) ->
  run (k60 O key) (Ã3 p k f l r)<=k/\(∀ i,i < run (k60 O key) (Ã3 p k f l r)->O.kle (kk O key p i) (kk O key p k))/\(∀ i,run (k60 O key) (Ã3 p k f l r)<=i->i < k->O.klt (kk O key p k) (kk O key p i))
 |0,l,r,h1,h2,h3,h4,h5=>by
  have:l=r:=by omega
  subst this;exact⟨h2,h4,h5⟩
 |f + 1,l,r,h1,h2,h3,h4,h5=>by
  have unf:Ã3 p k (f + 1) l r=(if l ≥ r then .ret l else .ask (p.getD k 0) (p.getD ((l + r) / 2) 0) λc=>if c=true then Ã3 p k f l ((l + r) / 2) else Ã3 p k f ((l + r) / 2 + 1) r):=rfl;rw[unf];by_cases hlr:l ≥ r
  ·rw[if_pos hlr];have:l=r:=by omega
   subst this;exact⟨h2,h4,h5⟩
  ·rw[if_neg hlr];have unf2:run (k60 O key) (KasT.ask (p.getD k 0) (p.getD ((l + r) / 2) 0) λc=>if c=true then Ã3 p k f l ((l + r) / 2) else Ã3 p k f ((l + r) / 2 + 1) r) =
    run (k60 O key) (if O.blt (kk O key p k) (kk O key p ((l + r) / 2))=true then Ã3 p k f l ((l + r) / 2) else Ã3 p k f ((l + r) / 2 + 1) r):=rfl
   rw[unf2];cases hb:O.blt (kk O key p k) (kk O key p ((l + r) / 2)) with
   |true =>
    simp only[if_true];exact K10 hu f l ((l + r) / 2) ∅ ∅ ∅ h4 λi hi hk=>KeyOrd.klt_of_klt_of_kle hb (hu _ i hi hk)
   |false =>
    simp only[È7,if_false];exact K10 hu f ((l + r) / 2 + 1) r ∅ ∅ ∅ (λi hi=>Ö3 (hu i ((l + r) / 2) ∅ ∅) hb) h5
theorem O91:∀ (f:Nat) (p:Array Nat) (k:Nat),p.Perm p0->p.size=p0.size->Up O key p k->k + f<=p0.size ->
  (run (k60 O key) (kas_bin f p k)).Perm p0/\Up O key (run (k60 O key) (kas_bin f p k)) (k + f)
 |0,p,k,hp,_,hu,_=>⟨hp,hu⟩
 |f + 1,p,k,hp,hz,hu,hk=>by
  have unf:kas_bin (f + 1) p k=(Ã3 p k k 0 k).bind λl=>kas_bin f (bubble p k (k - l)) (k + 1):=rfl;rw[unf,run_bind];have pl:=K10 (O:=O) (key:=key) hu k 0 k ∅ ∅ ∅ (λi hi=>absurd hi (Ú6 _)) (λi h1 h2=>absurd h2 ∅)
  generalize run (k60 O key) (Ã3 p k k 0 k)=l at pl ⊢;obtain⟨l1,l2,l3⟩:=pl;have hb:=j22 (O:=O) (key:=key) (p:=p) (k:=k) (d:=k - l) ∅ ∅
  have hu':Up O key (bubble p k (k - l)) (k + 1):=λi j hij hj=>by
   rw[hb,hb];have el:k - (k - l)=l:=by omega
   rw[el];by_cases ei:i=l
   ·rw[if_pos ei];by_cases ej:j=l
    ·rw[if_pos ej];exact Æ1 _
    ·rw[if_neg ej,if_pos ∅]
     exact Î2 (l3 _ ∅ ∅)
   ·rw[if_neg ei];by_cases hi:l < i/\i<=k
    ·rw[if_pos hi,if_neg ∅,if_pos ∅]
     exact hu _ _ ∅ ∅
    ·rw[if_neg hi];by_cases ej:j=l
     ·rw[if_pos ej];exact l2 _ ∅
     ·rw[if_neg ej];by_cases hj':l < j/\j<=k
      ·rw[if_pos hj'];exact hu _ _ ∅ ∅
      ·rw[if_neg hj'];exact hu _ _ hij ∅
  have ih:=O91 (p0:=p0) f (bubble p k (k - l)) (k + 1) ((bubble_perm _ _ _).trans hp) ((bubble_size _ _ _).trans hz) hu' ∅
  exact⟨ih.1,by have:=ih.2;rwa [show k + 1 + f=k + (f + 1) by omega] at this⟩
theorem U61(h1:1<=n):(run (k60 O key) (Ï9 n)).Perm (î n).toArray/\Up O key (run (k60 O key) (Ï9 n)) n:=by
 unfold Ï9;rw[run_bind];have c:=F91 (O:=O) (key:=key) (p:=(î n).toArray) h1 (by simp)
 generalize run (k60 O key) (Û7 n (î n).toArray)=r at c ⊢;obtain⟨c1,c2,c3,c4,c5⟩:=c;split
 ·have b:=O91 (O:=O) (key:=key) (n - max r.1 1) r.2 (max r.1 1) c1 c2 (by rw[Nat.max_eq_left c3];exact c5) (by simp;omega)
  exact⟨b.1,by have:=b.2;rwa [show max r.1 1 + (n - max r.1 1)=n by omega] at this⟩
 ·have:r.1=n:=by omega
  rw[this] at c5;exact⟨c1,c5⟩
end
def n70{α:Type}(n:Nat):KasT α->Prop
 |.ret _=>True|.ask i j k=>(i < n/\j < n)/\∀ b,n70 n (k b)
def Q80{α:Type}(G:α->Prop):KasT α->Prop
 |.ret a=>G a|.ask _ _ k=>∀ b,Q80 G (k b)
theorem n70.bind{α β:Type}{n:Nat}{f:α->KasT β}{G:α->Prop}(hf:∀ a,G a->n70 n (f a)):∀ {t:KasT α},n70 n t->Q80 G t->n70 n (t.bind f)
 |.ret a,_,g=>hf a g|.ask _ _ _,h,g=>⟨h.1,λb=>n70.bind hf (h.2 b) (g b)⟩
theorem Q80.bind{α β:Type}{f:α->KasT β}{G:α->Prop}{G':β->Prop}(hf:∀ a,G a->Q80 G' (f a)):∀ {t:KasT α},Q80 G t->Q80 G' (t.bind f)
 |.ret a,g=>hf a g|.ask _ _ _,g=>λb=>Q80.bind hf (g b)
def Low(n:Nat)(p:Array Nat):Prop:=∀ i,p.getD i 0 < n
theorem r91(h1:1<=n)(hp:p.Perm q)(hq:∀ x∈q.toList,x < n):Low n p:=λi=>by
 by_cases hi:i < p.size
 ·have e:p.getD i 0=p[i]:=by simp[getD,hi]
  rw[e];exact hq _ (hp.toList.mem_iff.mp (by simp))
 ·have e:p.getD i 0=0:=by simp[getD,hi]
  rw[e];exact h1
structure Good(n:Nat)(q p:Array Nat):Prop where
 low:Low n p
 perm:p.Perm q
theorem Good.rev(h1:1<=n)(hq:∀ x∈q.toList,x < n)(g:Good n q p)(i j:Nat):Good n q (Æ7 p i j) :=
 have e:=(mirror_perm p i j ((j - i) / 2)).trans g.perm
 ⟨r91 h1 e hq,e⟩
theorem Good.bub(h1:1<=n)(hq:∀ x∈q.toList,x < n)(g:Good n q p)(i j:Nat):Good n q (bubble p i j) :=
 have e:=(bubble_perm p i j).trans g.perm
 ⟨r91 h1 e hq,e⟩
section
variable {n:Nat}{q:Array Nat}
theorem K20(g:Low n p):∀ (f k:Nat),n70 n (Æ8 p f k)
 |0,_=>trivial|f + 1,k=>⟨⟨g _,g _⟩,λb=>by cases b with | true=>exact trivial | false=>exact K20 g f (k + 1)⟩
theorem u50:∀ (f k:Nat),Q80 (λ_=>True) (Æ8 p f k)
 |0,_=>trivial|f + 1,k=>λb=>by cases b with | true=>exact trivial | false=>exact u50 f (k + 1)
theorem D10(h1:1<=n)(hq:∀ x∈q.toList,x < n):∀ (f:Nat) (p:Array Nat) (k c:Nat),Good n q p->n70 n (Á9 f p k c)/\Q80 (λr=>Good n q r.1) (Á9 f p k c)
 |0,p,k,c,g=>⟨trivial,g⟩
 |f + 1,p,k,c,g=>by
  have a:=λp' k' c' g'=>(D10 h1 hq f p' k' c' g').1;have r:=λp' k' c' g'=>(D10 h1 hq f p' k' c' g').2;refine⟨⟨⟨g.low _,g.low _⟩,λb=>?_⟩,λb=>?_⟩
  ·cases b with
   |true =>
    show n70 n (if c > 0 then Á9 f (Æ7 p (k - (c + 1)) k) (k + 1) 0 else Á9 f p (k + 1) 0);split
    ·exact a _ _ _ (g.rev h1 hq _ _)
    ·exact a _ _ _ g
   |false=>exact⟨⟨g.low _,g.low _⟩,λd=>by cases d with | true=>exact trivial | false=>exact a _ _ _ g⟩
  ·cases b with
   |true =>
    show Q80 _ (if c > 0 then Á9 f (Æ7 p (k - (c + 1)) k) (k + 1) 0 else Á9 f p (k + 1) 0);split
    ·exact r _ _ _ (g.rev h1 hq _ _)
    ·exact r _ _ _ g
   |false=>exact λd=>by cases d with | true=>exact g | false=>exact r _ _ _ g
theorem q20(h1:1<=n)(hq:∀ x∈q.toList,x < n)(g:Good n q p)(k m:Nat):n70 n (kas_tail3 k m p)/\Q80 (λr=>Good n q r.2) (kas_tail3 k m p) :=
 have g':=g.rev h1 hq 0 k
 And.intro (n70.bind (f:=λm'=>Ð7 (m',Æ7 p 0 k)) (λ_ _=>È8) (K20 g'.low (m - k) k) (u50 (m - k) k)) (Q80.bind (f:=λm'=>Ð7 (m',Æ7 p 0 k)) (G':=λr=>Good n q r.2) (λ_ _=>g') (u50 (m - k) k))
theorem h60(h1:1<=n)(hq:∀ x∈q.toList,x < n)(g:Good n q p)(k m:Nat):n70 n (Ï0 k m p)/\Q80 (λr=>Good n q r.2) (Ï0 k m p):=by
 have d:=D10 h1 hq (m - (k + 1)) p (k + 1) 0 g;refine⟨n70.bind (λr gr=>?_) d.1 d.2,Q80.bind (λr gr=>?_) d.2⟩
 ·split
  ·exact(q20 h1 hq (gr.rev h1 hq _ _) _ _).1
  ·exact(q20 h1 hq gr _ _).1
 ·split
  ·exact(q20 h1 hq (gr.rev h1 hq _ _) _ _).2
  ·exact(q20 h1 hq gr _ _).2
theorem l21(h1:1<=n)(hq:∀ x∈q.toList,x < n)(g:Good n q p)(m:Nat):n70 n (Û7 m p)/\Q80 (λr=>Good n q r.2) (Û7 m p):=by
 refine⟨n70.bind (λk _=>?_) (K20 g.low _ _) (u50 _ _),Q80.bind (λk _=>?_) (u50 _ _)⟩
 ·split
  ·exact trivial
  ·split
   ·exact⟨⟨g.low _,g.low _⟩,λb=>by cases b with | true=>exact trivial | false=>exact(h60 h1 hq (g.rev h1 hq _ _) _ _).1⟩
   ·exact(h60 h1 hq g _ _).1
 ·split
  ·exact g
  ·split
   ·exact λb=>by cases b with | true=>exact g | false=>exact(h60 h1 hq (g.rev h1 hq _ _) _ _).2
   ·exact(h60 h1 hq g _ _).2
theorem i10(g:Low n p)(k:Nat):∀ (f l r:Nat),n70 n (Ã3 p k f l r)/\Q80 (λ_=>True) (Ã3 p k f l r)
 |0,_,_=>⟨trivial,trivial⟩
 |f + 1,l,r=>by
  have e:Ã3 p k (f + 1) l r=(if l ≥ r then .ret l else .ask (p.getD k 0) (p.getD ((l + r) / 2) 0) λc=>if c=true then Ã3 p k f l ((l + r) / 2) else Ã3 p k f ((l + r) / 2 + 1) r):=rfl;rw[e];split
  ·exact⟨trivial,trivial⟩
  ·refine⟨⟨⟨g _,g _⟩,λb=>?_⟩,λb=>?_⟩
   ·cases b with
    |true=>exact(i10 g k f _ _).1|false=>exact(i10 g k f _ _).1
   ·cases b with
    |true=>exact(i10 g k f _ _).2|false=>exact(i10 g k f _ _).2
theorem e61(h1:1<=n)(hq:∀ x∈q.toList,x < n):∀ (f:Nat) (p:Array Nat) (k:Nat),Good n q p->n70 n (kas_bin f p k)
 |0,_,_,_=>trivial|f + 1,p,k,g=>n70.bind (λl _=>e61 h1 hq f _ _ (g.bub h1 hq _ _)) (i10 g.low k k 0 k).1 (i10 g.low k k 0 k).2
theorem s01(h1:1<=n):n70 n (Ï9 n):=by
 have hq:∀ x∈((î n).toArray).toList,x < n:=λx hx=>by simpa using hx
 have g:Good n (î n).toArray (î n).toArray:=⟨r91 h1 (Ê8 _) hq,Ê8 _⟩;have c:=l21 h1 hq g n;refine n70.bind (λr gr=>?_) c.1 c.2;split
 ·exact e61 h1 hq _ _ _ gr
 ·exact trivial
end
theorem Q90{α:Type}{n:Nat}{cmp:Nat->Nat->Bool}{ask:Nat->Nat->(Bool->Å->Prop)->Å->Prop}{s:Å}(h:∀ i j (C:Bool->Å->Prop),i < n->j < n->C (cmp i j) s->ask i j C s){Q:α->Å->Prop} :
  ∀ (t:KasT α),n70 n t->Q (run cmp t) s->t.kasWp ask Q s
 |.ret _,_,q=>q|.ask i j k,a,q=>h i j _ a.1.1 a.1.2 (Q90 h (k (cmp i j)) (a.2 _) q)
def k20:List Int->List Int->Bool
 |[],[]=>false|[],_::_=>true|_::_,[]=>false|x::r,y::q=>if x=y then k20 r q else decide (x < y)
theorem t00:∀ a,k20 a a=false
 |[]=>rfl|x::r=>by show(if x=x then k20 r r else _)=_;rw[if_pos rfl];exact t00 r
theorem q30:∀ a b c,k20 a b=true->k20 b c=true->k20 a c=true
 |[],[],_,h,_=>by cases h
 |[],_::_,[],_,h=>by cases h
 |[],_::_,_::_,_,_=>rfl|_::_,[],_,h,_=>by cases h
 |_::_,_::_,[],_,h=>by cases h
 |x::a,y::b,z::c,h1,h2=>by
  have h1:(if x=y then k20 a b else decide (x < y))=true:=h1;have h2:(if y=z then k20 b c else decide (y < z))=true:=h2;show(if x=z then k20 a c else decide (x < z))=true;by_cases e1:x=y
  ·rw[if_pos e1] at h1;by_cases e2:y=z
   ·rw[if_pos e2] at h2;rw[if_pos (e1.trans e2)];exact q30 a b c h1 h2
   ·rw[if_neg e2] at h2;rw[if_neg ∅]
    rw[e1];exact h2
  ·rw[if_neg e1] at h1;have l1:x < y:=by simpa using h1
   by_cases e2:y=z
   ·rw[if_neg ∅];exact decide_eq_true ∅
   ·rw[if_neg e2] at h2;have l2:y < z:=by simpa using h2
    rw[if_neg ∅];exact decide_eq_true ∅
theorem q40:∀ a b,k20 a b=false->k20 b a=false->a=b
 |[],[],_,_=>rfl|[],_::_,h,_=>by cases h
 |_::_,[],_,h=>by cases h
 |x::a,y::b,h1,h2=>by
  have h1:(if x=y then k20 a b else decide (x < y))=false:=h1;have h2:(if y=x then k20 b a else decide (y < x))=false:=h2;by_cases e:x=y
  ·subst e;rw[if_pos rfl] at h1 h2;rw[q40 a b h1 h2]
  ·rw[if_neg e] at h1;rw[if_neg (Â2 e)] at h2;have l1:¬ x < y:=by simpa using h1
   have l2:¬ y < x:=by simpa using h2
   omega
theorem e71(a b c:List Int)(h:k20 a c=true):k20 a b=true∨k20 b c=true:=by
 cases hab:k20 a b with
 |true=>exact .inl rfl
 |false =>
  right;cases hba:k20 b a with
  |true=>exact q30 b a c hba h|false=>rw[← q40 a b hab hba];exact h
def U71:KeyOrd:=⟨List Int,k20,t00,q30,e71,q40⟩
section
variable {P:Ü}{w:ì}{A:ö}{E:Ã->Å->Prop}{s:Å}
def sortedBy(ks:List (List Int))(p:List Nat):Prop:=p.Perm (î ks.length)/\(p.map λi=>ks.getD i []).Pairwise λx y=>k20 y x=false
theorem range_getD(d:α):∀ (l:List α),(î l.length).map (λi=>l.getD i d)=l:=λl=>by
 refine List.ext_getElem (by simp) λi h1 h2=>?_
 simp at h1;simp[h1]
def y22(P:Ü)(w:ì)(A:ö)(s:Å)(vs:List Ã)(Pr:List Nat->Prop)(kd:Ë1):Prop:=∃ p:List Nat,Pr p/\∀ (E:Ã->Å->Prop) (Q:Unit × Á5->Å->Prop),(∀ st',failedOf st'=none->arrOf st'=(p.toArray).map (ñ (vs.toArray.zip vs.toArray))->Q ((),st') s)->Ñ (Ö P w) A (sortRuns'.run (Ê5 kd (vs.toArray.zip vs.toArray) #[] 7 none)) Q E s
structure j32(P:Program)(w:World)(A:Around)(s:Shared)(vs:List Value)(Pr:List Nat->Prop)(kd:SortKind):Prop where
 len:vs.length<=1000
 few:vs.length < 2->Pr (range vs.length)
 all:∀ p,Pr p->p.length=vs.length
 kind:2<=vs.length->∀ (E:Value->Shared->Prop) (Q:SortKind->Shared->Prop),Q kd s->wpAny (model P w) A (keyKind' vs.toArray) Q E s
 run:2<=vs.length->y22 P w A s vs Pr kd
theorem j42(hl:n=ks.length)(h2:n < 2):sortedBy ks (î n):=by
 subst hl;refine⟨.refl _,?_⟩;rw[range_getD]
 match ks,h2 with
 |[],_=>exact .nil|[_],_=>simp|_::_::_,q=>simp at q;omega
theorem U81{vs:List Ã}{ks:List (List Int)}{kd:Ë1}(hlen:vs.length=ks.length)(h64:vs.length < 64)(ask:∀ i j,i < vs.length->j < vs.length->∀ (E:Ã->Å->Prop) (C:Bool->Å->Prop),C (k20 (ks.getD i []) (ks.getD j [])) s->Ñ (Ö P w) A (keyLt' kd (vs.getD i â) (vs.getD j â)) C E s)(h2':2<=vs.length):y22 P w A s vs (sortedBy ks) kd:=by
 have so:=U61 (O:=U71) (key:=λi=>ks.getD i []) (n:=vs.length) ∅
 refine⟨(run (k60 U71 λi=>ks.getD i []) (Ï9 vs.length)).toList,?_,λE Q q=>?_⟩
 ·generalize run (k60 U71 λi=>ks.getD i []) (Ï9 vs.length)=p at so;refine⟨?_,?_⟩
  ·have:=so.1.toList;rw[hlen] at this;simpa using this
  ·rw[List.pairwise_iff_getElem];intro i j hi hj hij;have hsz:p.size=vs.length:=by have:=so.1.size_eq;simpa using this
   have hi':i < p.size:=by simpa using hi
   have hj':j < p.size:=by simpa using hj
   have u:=so.2 i j (Í2 hij) ∅
   have g:∀ k,k < p.size->kk U71 (λi=>ks.getD i []) p k=ks.getD (p.toList.getD k 0) []:=λk hk=>by show ks.getD (p.getD k 0) []=_;rw[Ì4,Ó (l:=p.toList),û]
   have u':k20 (ks.getD (p.toList.getD j 0) []) (ks.getD (p.toList.getD i 0) [])=false:=by
    have:=u;unfold KeyOrd.kle at this;rw[g i hi',g j hj'] at this;exact this
   simpa [hi',hj'] using u'
 ·refine Â4 (kat_run (s:=s) (Q:=λst' s'=>s'=s/\failedOf st'=none/\arrOf st'=(run (k60 U71 λi=>ks.getD i []) (Ï9 vs.length)).map (ñ (vs.toArray.zip vs.toArray)))
   (G:=λp s'=>s'=s/\p=run (k60 U71 λi=>ks.getD i []) (Ï9 vs.length)) rfl h2' h64 (λp st' s' a1 a2 a3 a4=>⟨a4.1,a3,by rw[a2,a4.2]⟩)
   (Q90 (n:=vs.length) (cmp:=k60 U71 λi=>ks.getD i []) (λi j C hi hj hC=>ask i j hi hj _ C hC) (Ï9 vs.length) (s01 ∅) ⟨rfl,rfl⟩)) ?_ λ_ _ e=>e
  rintro ⟨⟨⟩,st'⟩ s' ⟨hs',hf,har⟩;subst hs';exact q st' hf har
def s11(h h':æ):Prop:=∀ b o,h.get? b=some o->o.cls=.type "tuple"->h'.get? b=some o
theorem G01{a:Æ}{vs:List Ã}{Pr:List Nat->Prop}{kd:Ë1}{n:Nat}{R:PySem.Fin->Å->Prop}(ho:s.heap.get? a=some (Â9 "list" vs.toArray n))(hk:∀ h',s11 s.heap h'->j32 P w A { s with heap:=h' } vs Pr kd)
  (h:∀ (p:List Nat) (h':æ) (c:Nat),Pr p->(∀ b o,b≠a->s.heap.get? b=some o->h'.get? b=some o)->h'.get? a=some (Â9 "list" (p.map λi=>vs.getD i â).toArray c)->R (.done (.ret .none)) { s with heap:=h' }) :
  Ñ (Ö P w) A (Ä3.«list.sort» ⟨[.ref a],[]⟩) R E s:=by
 have ha:a < s.heap.objs.size:=ß ho;have h64:=(hk s.heap λ_ _ e _=>e).len;have s1:=Ê1 s.heap a (À5 λ_=>(#[]:Array Ã));obtain⟨e1,ho1⟩:∃ e1,(s.heap.update a (À5 λ_=>(#[]:Array Ã))).get? a=some (Â9 "list" #[] e1):=⟨_,Ü9 ho λ_=>#[]⟩;have kp:∀ b o,b≠a->s.heap.get? b=some o->(((s.heap.update a (À5 λ_=>(#[]:Array Ã))).push (Â9 "tuple" vs.toArray 0)).push (Â9 "list" #[] 0)).get? b=some o:=λb o hb e=>Ä _ (Ä _ ((s1.2 b hb).trans e));have ho6:(((s.heap.update a (À5 λ_=>(#[]:Array Ã))).push (Â9 "tuple" vs.toArray 0)).push (Â9 "list" #[] 0)).get? a=some (Â9 "list" #[] e1):=Ä _ (Ä _ ho1);have hk6:=hk (((s.heap.update a (À5 λ_=>(#[]:Array Ã))).push (Â9 "tuple" vs.toArray 0)).push (Â9 "list" #[] 0)) (λb o e hc=>kp b o (λq=>by subst q;rw[ho] at e;cases e;have hc':Â7 "list"=Â7 "tuple":=hc;injection hc' with hc';exact absurd hc' (-0)) e)
 rw[list_sort_plain];refine À (Î9 ho rfl (À (Ø3 ho rfl ?_ (by rw[Õ,Á4];omega) (Å8 _))))
 refine À (seqEpoch_at ho1 rfl (À (wpAny_newTuple ?_ (by show vs.length<=_;rw[Á4];omega))));refine À (wpAny_newList (Ã7 ?_) (Å8 _))
 show Ñ (Ö P w) A _ R E { s with heap:=((s.heap.update a (À5 λ_=>(#[]:Array Ã))).push (Â9 "tuple" vs.toArray 0)).push (Â9 "list" #[] 0) };generalize hH:((s.heap.update a (À5 λ_=>(#[]:Array Ã))).push (Â9 "tuple" vs.toArray 0)).push (Â9 "list" #[] 0)=h6 at kp ho6 hk6 ⊢;have fin:∀ (p:List Nat) (out:Array Ã),out=(p.map λi=>vs.getD i â).toArray->Pr p->Ñ (Ö P w) A (do
   let touched:=(← seqEpoch a) != e1
   Ä3.List.listUpdate (.ref a) λ_=>out
   if touched then rule "list.sort.modified";raiseError "ValueError" "list modified during sort"
   ret .none) R E { s with heap:=h6 }:=λp out eo hp=>by
  subst eo;have hsz:(p.map λi=>vs.getD i â).toArray.size=vs.length:=by rw[Õ,È,(hk s.heap λ_ _ e _=>e).all p hp]
  have s2:=Ê1 h6 a (À5 λ_=>(p.map λi=>vs.getD i â).toArray);refine À (seqEpoch_at ho6 rfl (À (Ø3 ho6 rfl ?_ (Å8 _) (Þ (Ö7 hsz) (by rw[Á4];omega)))))
  simp only[bne_self_eq_false,È7,if_false];exact Ç (h p _ _ hp (λb o hb e=>(s2.2 b hb).trans (kp b o hb e)) (Ü9 ho6 λ_=>(p.map λi=>vs.getD i â).toArray))
 dsimp only;by_cases h2:vs.toArray.size < 2
 ·rw[if_pos h2,if_pos h2];refine À (Ç ?_);rw[StateT.run_pure];refine À (Ç ?_);dsimp only;refine fin (î vs.length) _ ?_ ((hk s.heap λ_ _ e _=>e).few (by simpa using h2))
  rw[range_getD];apply Array.toList_inj.mp;rw[Array.toList_map];show List.map _ (vs.toArray.zip vs.toArray).toList=vs;rw[ksk_zip];exact List.map_snd_zip (Ë _)
 ·rw[if_neg h2,if_neg h2];have h2':2<=vs.length:=by simpa using h2
  refine À (hk6.kind h2' _ _ ?_);obtain⟨p,hp,hr⟩:=hk6.run h2';refine À (hr _ _ λst' hf har=>?_);dsimp only;rw[hf];exact fin p _ (kat_snds rfl har) hp
end
end MySort
namespace TS
open PySem PySem.W PyProof.Rows
structure Tw where
 a:Array Nat
 pending:Array (Nat × Nat × Nat)
 minGallop:Nat
abbrev TM:=StateT Tw Option
section
variable (n:Nat) (cmp:Nat->Nat->Bool)
def ltT(x y:Nat):TM Bool:=if x < n/\y < n then pure (cmp x y) else λ_=>none
def s21(arr:Array Nat)(i:Nat):TM Nat:=match arr.toList[i]? with
 |some p=>pure p|none=>λ_=>none
def U91(i j:Nat):TM Bool:=do
 let a:=(← get).a
 ltT n cmp (← s21 a i) (← s21 a j)
def H62(i j:Nat):TM Unit:=modify λs=>{ s with a:=mirror s.a i j ((j - i) / 2) }
def mvL(a:Array Nat)(src dst:Nat):Array Nat:=⟨a.toList.take dst++((a.toList.drop src).take 1++((a.toList.take src).drop dst++a.toList.drop (src + 1)))⟩
theorem j52(h:src < a.size)(h2:dst<=src):mvL a src dst=bubble a src (src - dst):=by
 apply Array.ext_getElem?;intro k;rw[getElem?_bubble h (src - dst) ∅ k,show src - (src - dst)=dst by omega]
 have hl:src < a.toList.length:=h;rw[← û,← û,← û,← û];show(a.toList.take dst++((a.toList.drop src).take 1++((a.toList.take src).drop dst++a.toList.drop (src + 1))))[k]?=_;generalize a.toList=l at hl;rw[Ó5,Ó5,Ó5,Ã4,Ã4,Å2,Å2,Ã4,show min dst l.length=dst by omega,show min 1 (l.length - src)=1 by omega,show min src l.length - dst=src - dst by omega,Ô9,Ô9,Õ0,Õ0,Õ0,Ô9]
 by_cases c1:k < dst
 ·rw[if_pos c1,if_pos c1,if_neg ∅,if_neg ∅]
 ·rw[if_neg c1];by_cases c2:k=dst
  ·rw[if_pos ∅,if_pos ∅,if_pos c2,show src + (k - dst)=src by omega]
  ·rw[if_neg ∅,if_neg c2]
   by_cases c3:k<=src
   ·rw[if_pos ∅,if_pos ∅,if_pos ∅,show dst + (k - dst - 1)=k - 1 by omega]
   ·rw[if_neg ∅,if_neg ∅,show src + 1 + (k - dst - 1 - (src - dst))=k by omega]
def V01(src dst:Nat):TM Unit:=λt=>if src < t.a.size/\dst<=src then some ((),{ t with a:=mvL t.a src dst }) else none
end
section
variable {prog:Ü}{w:ì}{A:ö}{E:Ã->Å->Prop}{s:Å}{κ:Ë1}{it:Array Keyed}{n:Nat}{cmp:Nat->Nat->Bool}
def co(κ:Ë1)(it:Array Keyed)(t:Tw):SortSt:=Ê5 κ (t.a.map (ñ it)) t.pending t.minGallop none
def Sim(prog:Ü)(w:ì)(A:ö)(E:Ã->Å->Prop)(s:Å)(κ:Ë1)(it:Array Keyed){α β:Type}(rel:β->α)(m:StateT Á5 Sem α)(f:TM β):Prop :=
 ∀ (t:Tw) (b:β) (t':Tw),f t=some (b,t')->∀ Q:α->Á5->Å->Prop,Q (rel b) (co κ it t') s->kasC (Ö prog w) A E m Q (co κ it t) s
local macro_rules | `(tactic| trivial)=>`(tactic| skip)
section
variable {α β α' β':Type}{r:β->α}{r':β'->α'}
theorem B80(b:β)(e:a=r b):Sim prog w A E s κ it r (pure a) (pure b):=λt b' t' h Q q=>by
 cases h;subst e;exact kasC_pure q
theorem l90(h:Sim prog w A E s κ it r m f)(hk:∀ b,Sim prog w A E s κ it r' (k (r b)) (g b)):Sim prog w A E s κ it r' (m >>= k) (f >>= g):=λt b t' e Q q=>by
 have e:(f t).bind (λx=>g x.1 x.2)=some (b,t'):=e;obtain⟨⟨b1,t1⟩,e1,e2⟩:=Ì.mp e;exact kasC_bind (h t b1 t1 e1 _ (hk b1 t1 b t' e2 Q q))
theorem Y20:Sim prog w A E s κ it (co κ it) (get:StateT Á5 Sem Á5) (get:TM Tw):=λt b t' e Q q=>by
 cases e;exact kasC_get q
theorem q50(h:∀ t,F (co κ it t)=co κ it (G t)):Sim prog w A E s κ it (λu:Unit=>u) (modify F:StateT Á5 Sem Unit) (modify G:TM Unit):=λt b t' e Q q=>by
 cases e;refine kasC_modify ?_;rw[h t];exact q
theorem G11:Sim prog w A E s κ it (λu:Unit=>u) (liftM (rule x):StateT Á5 Sem Unit) (pure ():TM Unit):=λt b t' e Q q=>by
 cases e;exact kasC_lift (Ï5 q)
theorem V11[Decidable c](h1:c->Sim prog w A E s κ it r m f)(h2:¬ c->Sim prog w A E s κ it r m' f'):Sim prog w A E s κ it r (if c then m else m') (if c then f else f'):=by
 split
 ·exact h1 (by assumption)
 ·exact h2 (by assumption)
def A90(r:β->α):ForInStep β->ForInStep α
 |.done b=>.done (r b)|.yield b=>.yield (r b)
theorem e81(h:∀ x b,Sim prog w A E s κ it (A90 r) (body x (r b)) (body' x b)):∀ (l:List Nat) (b:β),Sim prog w A E s κ it r (forIn l (r b) body) (forIn l b body')
 |[],b=>by
  rw[Ô4,Ô4];exact B80 b rfl
 |x::l,b=>by
  rw[Ë3,Ë3];refine l90 (h x b) λst=>?_;cases st with
  |done b'=>exact B80 b' rfl|yield b'=>exact e81 h l b'
end
def Ora(prog:Ü)(w:ì)(A:ö)(s:Å)(κ:Ë1)(it:Array Keyed)(n:Nat)(cmp:Nat->Nat->Bool):Prop:=∀ i j (C:Bool->Å->Prop),i < n->j < n->C (cmp i j) s->kas_cmp prog w A κ it i j C s
theorem P01(O:Ora prog w A s κ it n cmp)(x y:Nat):Sim prog w A E s κ it (λo:Bool=>some o) (lt' (ñ it x) (ñ it y)) (ltT n cmp x y):=λt b t' e Q q=>by
 unfold ltT at e;split at e
 ·rename_i h;cases e;rw[lt'_eq];refine kasC_bind (kasC_get ?_);exact kasC_bind (kasC_lift (Ñ8 (Â4 (O x y (λc s'=>s'=s/\c=cmp x y) h.1 h.2 ⟨rfl,rfl⟩) (λc s' hc=>by obtain⟨rfl,rfl⟩:=hc;exact kasC_pure q) λ_ _ hF=>hF.elim)))
 ·cases e
theorem K30(p:Array Nat)(i:Nat):Sim prog w A E s κ it (ñ it) (elem' (p.map (ñ it)) i) (s21 p i):=by
 rw[elem'_eq];unfold s21;rw[Array.getElem?_map,û];cases p[i]? with
 |none=>exact λt b t' e=>by cases e
 |some x=>exact B80 x rfl
theorem G21(O:Ora prog w A s κ it n cmp)(i j:Nat):Sim prog w A E s κ it (λo:Bool=>some o) (ltAt' i j) (U91 n cmp i j):=by
 rw[ltAt'_eq];unfold U91;refine l90 Y20 λt=>?_;exact l90 (K30 t.a i) λx=>l90 (K30 t.a j) λy=>P01 O x y
theorem V21(i j:Nat):Sim prog w A E s κ it (λu:Unit=>u) (reverseSlice' i j) (H62 i j):=by
 rw[reverseSlice'_eq];refine q50 λt=>?_;show Ê5 κ (mirror (t.a.map (ñ it)) i j ((j - i) / 2)) t.pending t.minGallop none=Ê5 κ ((mirror t.a i j ((j - i) / 2)).map (ñ it)) t.pending t.minGallop none;rw[show mirror (t.a.map (ñ it)) i j ((j - i) / 2)=(mirror t.a i j ((j - i) / 2)).map (ñ it) from kas_swaps_map (ñ it) (λk=>i + k) (λk=>j - 1 - k) _ t.a]
theorem G31(k l:Nat):Sim prog w A E s κ it (λu:Unit=>u) (moveDown' k l) (V01 k l):=λt b t' e Q q=>by
 rw[moveDown'_eq];unfold V01 at e;split at e
 ·rename_i h;cases e;refine kasC_modify ?_;have e:bubble (t.a.map (ñ it)) k (k - l)=(mvL t.a k l).map (ñ it):=by
   rw[j52 h.1 h.2];exact kas_swaps_map (ñ it) (λi=>k - i) (λi=>k - i - 1) _ t.a
  show Q () (Ê5 κ (bubble (t.a.map (ñ it)) k (k - l)) t.pending t.minGallop none) s;rw[e];exact q
 ·cases e
def u60{β:Type}(f:Nat->β->TM (ForInStep β)):Nat->Nat->β->TM β
 |0,_,b=>pure b
 |n + 1,i,b=>f i b >>= λx=>match x with
  |.done b=>pure b|.yield b=>u60 f n (i + 1) b
theorem e91(f:Nat->β->TM (ForInStep β)):∀ (n i:Nat) (b:β),u60 f n i b=forIn (À7 i n 1) b f
 |0,_,_=>by rw[List.range'_zero,Ô4];rfl
 |n + 1,i,b=>by
  rw[À2,Ë3];show(f i b >>= λx=>_)=_
  congr 1
  funext x
  cases x with
  |done b=>rfl|yield b=>exact e91 f n (i + 1) b
theorem K40{α β:Type}{r:β->α}{a b:Nat}{c:β}{body:Nat->α->StateT Á5 Sem (ForInStep α)}{body':Nat->β->TM (ForInStep β)}(h:∀ x b,Sim prog w A E s κ it (A90 r) (body x (r b)) (body' x b)):Sim prog w A E s κ it r (forIn [a:b] (r c) body) (u60 body' (b - a) a c):=by
 rw[Std.Legacy.Range.forIn_eq_forIn_range',e91];have e:[a:b].size=b - a:=by simp[Std.Legacy.Range.size]
 show Sim prog w A E s κ it r (forIn (À7 a [a:b].size 1) (r c) body) _;rw[e];exact e81 h _ c
def n90(prog:Ü)(w:ì)(A:ö)(E:Ã->Å->Prop)(s:Å)(κ:Ë1)(it:Array Keyed){α β:Type}(r:β->α)(m:StateT Á5 Sem α):Type:={f:TM β // Sim prog w A E s κ it r m f}
section
variable {α β α' β':Type}{r:β->α}{r':β'->α'}
def b40{a:α}(b:β)(e:a=r b):n90 prog w A E s κ it r (pure a):=⟨pure b,B80 b e⟩
def b10{m:StateT Á5 Sem α}{k:α->StateT Á5 Sem α'}(h:n90 prog w A E s κ it r m)(hk:∀ b,n90 prog w A E s κ it r' (k (r b))):n90 prog w A E s κ it r' (m >>= k):=⟨h.1 >>= λb=>(hk b).1,l90 h.2 λb=>(hk b).2⟩
def m00{c:Prop}[Decidable c]{m m':StateT Á5 Sem α}(h1:n90 prog w A E s κ it r m)(h2:n90 prog w A E s κ it r m'):n90 prog w A E s κ it r (if c then m else m'):=⟨if c then h1.1 else h2.1,V11 (λ_=>h1.2) λ_=>h2.2⟩
def r90{m:StateT Á5 Sem α}:n90 prog w A E s κ it r m:=⟨λ_=>none,λ_ _ _ e=>by cases e⟩
def G41{m m':StateT Á5 Sem α}(e:m=m')(h:n90 prog w A E s κ it r m'):n90 prog w A E s κ it r m:=⟨h.1,by rw[e];exact h.2⟩
def s00{a b:Nat}(c:β){body:Nat->α->StateT Á5 Sem (ForInStep α)}(h:∀ x b,n90 prog w A E s κ it (A90 r) (body x (r b))):n90 prog w A E s κ it r (forIn [a:b] (r c) body):=⟨u60 (λx b=>(h x b).1) (b - a) a c,K40 λx b=>(h x b).2⟩
end
def l31(O:Ora prog w A s κ it n cmp)(i j:Nat):n90 prog w A E s κ it (λo:Bool=>some o) (ltAt' i j):=⟨U91 n cmp i j,G21 O i j⟩
def u32(i j:Nat):n90 prog w A E s κ it (λu:Unit=>u) (reverseSlice' i j):=⟨H62 i j,V21 i j⟩
def y32(i j:Nat):n90 prog w A E s κ it (λu:Unit=>u) (moveDown' i j):=⟨V01 i j,G31 i j⟩
def G51(x:String):n90 prog w A E s κ it (λu:Unit=>u) (liftM (rule x):StateT Á5 Sem Unit):=⟨pure (),G11⟩
def M22(O:Ora prog w A s κ it n cmp)(lo n' ok:Nat):n90 prog w A E s κ it (λ_:Unit=>true) (binarySort' lo n' ok):=by
 refine G41 (binarySort'_eq lo n' ok) ?_;refine b10 (r:=λ_:Unit=>((none,()):Option Bool × Unit)) (s00 () λk _=>?_) λ_=>b40 () rfl;refine b10 (r:=λx:Nat × Nat=>((none,x):Option Bool × Nat × Nat)) (s00 (0,k) λ_ x=>?_) λx=>b10 (y32 _ _) λ_=>b40 (Û ()) rfl;exact m00 (b40 (à x) rfl) (b10 (l31 O _ _) λo=>m00 (b40 (Û (x.1,_)) rfl) (b40 (Û (_,x.2)) rfl))
def j62(O:Ora prog w A s κ it n cmp)(lo z:Nat):n90 prog w A E s κ it (λm:Nat=>some m) (countRun' lo z):=by
 refine G41 (countRun'_eq lo z) ?_;refine b10 (r:=λm:Nat=>((none,m):Option (Option Nat) × Nat)) (s00 1 λ_ m=>b10 (l31 O _ _) λ_=>m00 (b40 (à m) rfl) (b40 (Û (m + 1)) rfl)) λm=>?_;refine m00 (b40 m rfl) (m00 (b10 (l31 O _ _) λ_=>m00 (b40 m rfl) (b10 (u32 _ _) λ_=>?_)) ?_)
 all_goals
  refine b10 (G51 _) λ_=>b10 (r:=λm:Nat=>((none,m,0):Option (Option Nat) × Nat × Nat)) (s00 (m + 1) λ_ m=>b10 (l31 O _ _) λ_=>m00 (m00 r90 (b40 (Û (m + 1)) rfl)) (b10 (l31 O _ _) λ_=>m00 (b40 (à m) rfl) r90)) λm=>?_;exact m00 r90 (b10 (u32 _ _) λ_=>b10 (r:=λm:Nat=>((none,m):Option (Option Nat) × Nat)) (s00 m λ_ m=>b10 (l31 O _ _) λ_=>m00 (b40 (à m) rfl) (b40 (Û (m + 1)) rfl)) λm=>b40 m rfl)
def tLt(O:Ora prog w A s κ it n cmp)(x y:Nat):n90 prog w A E s κ it (λo:Bool=>some o) (lt' (ñ it x) (ñ it y)):=⟨ltT n cmp x y,P01 O x y⟩
def t10(p:Array Nat)(i:Nat):n90 prog w A E s κ it (ñ it) (elem' (p.map (ñ it)) i):=⟨s21 p i,K30 p i⟩
def s31:Bool->Keyed->Array Keyed->Nat->Nat->Nat->StateT SortSt Sem (Option Nat):=sortPriv% PySem.Builtin.gallop
def Y30(O:Ora prog w A s κ it n cmp)(left:Bool)(y:Nat)(p:Array Nat)(base z hint:Nat):n90 prog w A E s κ it (λm:Nat=>some m) (s31 left (ñ it y) (p.map (ñ it)) base z hint):=by
 refine b10 (r:=λb:Bool=>some b) (b10 (t10 p (base + hint)) λx=>m00 (tLt O x y) (b10 (tLt O y x) λb=>b40 (!b) rfl)) λb=>?_;refine m00 ?_ ?_ <;> refine b10 (r:=λx:Nat × Nat=>((none,x):Option (Option Nat) × Nat × Nat)) (s00 (0,1) λ_ x=>m00 (b40 (à x) rfl) (b10 (r:=λb:Bool=>some b) (b10 (t10 p _) λx=>m00 (tLt O x y) (b10 (tLt O y x) λb=>b40 (!b) rfl)) λb=>m00 (b40 (à x) rfl) (b40 (Û (x.2,2 * x.2 + 1)) rfl))) λx=>?_
 ·exact b10 (r:=λx:Nat × Nat=>((none,x):Option (Option Nat) × Nat × Nat)) (s00 (hint + x.1 + 1,hint + min x.2 (z - hint)) λ_ x=>m00 (b40 (à x) rfl) (b10 (r:=λb:Bool=>some b) (b10 (t10 p _) λx=>m00 (tLt O x y) (b10 (tLt O y x) λb=>b40 (!b) rfl)) λb=>m00 (b40 (Û (_,x.2)) rfl) (b40 (Û (x.1,_)) rfl))) λx=>b40 x.2 rfl
 ·exact b10 (r:=λx:Nat × Nat=>((none,x):Option (Option Nat) × Nat × Nat)) (s00 (hint + 1 - min x.2 (hint + 1),hint - x.1) λ_ x=>m00 (b40 (à x) rfl) (b10 (r:=λb:Bool=>some b) (b10 (t10 p _) λx=>m00 (tLt O x y) (b10 (tLt O y x) λb=>b40 (!b) rfl)) λb=>m00 (b40 (Û (_,x.2)) rfl) (b40 (Û (x.1,_)) rfl))) λx=>b40 x.2 rfl
def Y40{α β:Type}{r:β->α}{a b:Nat}{i:α}(b':Nat)(eb:b=b')(c:β)(ec:i=r c){body:Nat->α->StateT Á5 Sem (ForInStep α)}(h:∀ x b,n90 prog w A E s κ it (A90 r) (body x (r b))):n90 prog w A E s κ it r (forIn [a:b] i body):=⟨u60 (λx b=>(h x b).1) (b' - a) a c,by subst eb;subst ec;exact K40 λx b=>(h x b).2⟩
def tIf{α β:Type}{r:β->α}{c:Prop}[Decidable c]{m m':StateT Á5 Sem α}(c':Bool)(e:c↔c'=true)(h1:n90 prog w A E s κ it r m)(h2:n90 prog w A E s κ it r m'):n90 prog w A E s κ it r (if c then m else m'):=⟨match c' with
 |true=>h1.1
 |false=>h2.1,by
 cases c' with
 |true=>rw[if_pos (e.mpr rfl)];exact h1.2
 |false=>rw[if_neg λh=>by cases e.mp h];exact h2.2⟩
def V31:n90 prog w A E s κ it (co κ it) (get:StateT Á5 Sem Á5):=⟨get,Y20⟩
def y42:Nat->StateT SortSt Sem Unit:=sortPriv% PySem.Builtin.setMinGallop
def j72(g:Nat):n90 prog w A E s κ it (λu:Unit=>u) (y42 g):=⟨modify λt=>{ t with minGallop:=g },q50 λ_=>rfl⟩
def H72(O:Ora prog w A s κ it n cmp)(left:Bool)(y:Nat)(p:Array Nat)(base z z' hint:Nat)(e:z=z'):n90 prog w A E s κ it (λm:Nat=>some m) (s31 left (ñ it y) (p.map (ñ it)) base z hint):=G41 (by rw[e]) (Y30 O left y p base z' hint)
def G61:Array Keyed->Array Keyed->StateT SortSt Sem (Array Keyed):=sortPriv% PySem.Builtin.mergeLo
def rs{γ:Type}(it:Array Keyed)(x:Option (Array Nat) × Array Nat × γ):Option (Array Keyed) × Array Keyed × γ:=(x.1.map (Array.map (ñ it)),x.2.1.map (ñ it),x.2.2)
theorem sz(it:Array Keyed)(i:Nat)(p:Array Nat):(i == (p.map (ñ it)).size)=true↔(i == p.size)=true:=by rw[size_map]
local macro_rules
 | `(tactic| ac_rfl)=>`(tactic| simp only[rs,A90,map_some,Option.map_none,Ø0,Array.map_push,Ï8,size_map])| `(tactic| rwa [$O:term,$p:term,$q:term,$out:term,$ia:term,$ib:term,$mg:term,$ac:term,$bc:term])=>`(tactic| exact b10 (t10 $p $ia) λy=>tIf _ (sz _ _ _) (b40 (à (some (push $out y++Å3 $q $ib++Å3 $p ($ia + 1)),push $out y,$ia + 1,$ib,$mg,$ac,$bc)) (by ac_rfl)) (m00 (b40 (à (none,push $out y,$ia + 1,$ib,$mg,$ac,$bc)) (by ac_rfl)) (b40 (Û (none,push $out y,$ia + 1,$ib,$mg,$ac,$bc)) (by ac_rfl))))| `(tactic| rwa [$O:term,$p:term,$q:term,$out:term,$ia:term,$ib:term,$mg:term,$ac:term,$bc:term,$_x0:term])=>`(tactic| exact b10 (t10 $q $ib) λy=>tIf _ (sz _ _ _) (b40 (à (some (push $out y++Å3 $p $ia++Å3 $q ($ib + 1)),push $out y,$ia,$ib + 1,$mg,$ac,$bc)) (by ac_rfl)) (b10 (t10 $p $ia) λz=>b10 (H72 $O true z $q ($ib + 1) _ (Ô7 $q - ($ib + 1)) 0 (by simp[rs])) λk=>m00 (tIf _ (sz _ _ _) (b40 (à (some (push $out y++Å3 $q ($ib + 1) ($ib + 1 + k)++Å3 $p $ia++Å3 $q ($ib + 1 + k)),push $out y++Å3 $q ($ib + 1) ($ib + 1 + k),$ia,$ib + 1 + k,$mg,$ac,k)) (by ac_rfl)) ((by rwa [$O:term,$p:term,$q:term,(push $out y++Å3 $q ($ib + 1) ($ib + 1 + k)),$ia:term,($ib + 1 + k),$mg:term,$ac:term,k]))) ((by rwa [$O:term,$p:term,$q:term,(push $out y),$ia:term,($ib + 1),$mg:term,$ac:term,k]))))| `(tactic| rwa [$O:term,$p:term,$q:term,$out:term,$ia:term,$ib:term,$mg:term,$bc:term,$_x0:term,$_x1:term,$_x2:term])=>`(tactic| exact b10 (j72 $mg) λ_=>b10 (t10 $q $ib) λy=>b10 (H72 $O false y $p $ia _ (Ô7 $p - $ia) 0 (by simp[rs])) λk=>m00 (tIf _ (sz _ _ _) (b40 (à (some ($out++Å3 $p $ia ($ia + k)++Å3 $q $ib++Å3 $p ($ia + k)),$out++Å3 $p $ia ($ia + k),$ia + k,$ib,$mg,k,$bc)) (by ac_rfl)) (tIf _ (sz _ _ _) (b40 (à (some ($out++Å3 $p $ia ($ia + k)++Å3 $p ($ia + k)++Å3 $q $ib),$out++Å3 $p $ia ($ia + k),$ia + k,$ib,$mg,k,$bc)) (by ac_rfl)) ((by rwa [$O:term,$p:term,$q:term,($out++Å3 $p $ia ($ia + k)),($ia + k),$ib:term,$mg:term,k,$bc:term,rfl])))) ((by rwa [$O:term,$p:term,$q:term,$out:term,$ia:term,$ib:term,$mg:term,k,$bc:term,rfl])))
def G71(O:Ora prog w A s κ it n cmp)(p q:Array Nat):n90 prog w A E s κ it (Array.map (ñ it)) (G61 (p.map (ñ it)) (q.map (ñ it))):=by
 refine b10 (G51 _) λ_=>b10 (t10 q 0) λx=>?_;refine tIf _ (sz it _ _) (b40 (#[x]++p.extract 0++q.extract 1) (by simp only[Ø0,Ï8,size_map,List.map_toArray,Å1,map_nil])) ?_
 refine tIf _ (sz it _ _) (b40 (#[x]++q.extract 1++p.extract 0) (by simp only[Ø0,Ï8,size_map,List.map_toArray,Å1,map_nil])) ?_
 refine b10 V31 λt=>?_;refine b10 (r:=rs it) (Y40 (p.size + q.size) (by simp) (none,#[x],0,1,t.minGallop) (by simp[rs];rfl) λ_ st=>?_) λst=>?_
 ·obtain⟨_,out,ia,ib,mg⟩:=st;refine b10 (r:=rs it) (Y40 (p.size + q.size) (by simp) (none,out,ia,ib,0,0) (by simp[rs]) λ_ st=>?_) λst=>?_
  ·obtain⟨_,out,ia,ib,ac,bc⟩:=st;refine b10 (t10 q ib) λy=>b10 (t10 p ia) λz=>b10 (tLt O y z) λo=>m00 (b10 (t10 q ib) λy=>?_) (b10 (t10 p ia) λy=>?_)
   ·exact tIf _ (sz it _ _) (b40 (à (some (out.push y++p.extract ia++q.extract (ib + 1)),out.push y,ia,ib + 1,0,bc + 1)) (by simp[rs,A90])) (m00 (b40 (à (none,out.push y,ia,ib + 1,0,bc + 1)) (by simp[rs,A90])) (b40 (Û (none,out.push y,ia,ib + 1,0,bc + 1)) (by simp[rs,A90])))
   ·exact tIf _ (sz it _ _) (b40 (à (some (out.push y++q.extract ib++p.extract (ia + 1)),out.push y,ia + 1,ib,ac + 1,0)) (by simp[rs,A90])) (m00 (b40 (à (none,out.push y,ia + 1,ib,ac + 1,0)) (by simp[rs,A90])) (b40 (Û (none,out.push y,ia + 1,ib,ac + 1,0)) (by simp[rs,A90])))
  ·obtain⟨o,out,ia,ib,ac,bc⟩:=st;cases o with
   |some v=>exact b40 (à (some v,out,ia,ib,mg)) rfl
   |none =>
    refine b10 (G51 _) λ_=>?_;refine b10 (r:=rs it) (Y40 (p.size + q.size) (by simp) (none,out,ia,ib,mg + 1,ac,bc) (by simp[rs]) λ_ st=>?_) λst=>?_
    ·obtain⟨_,out,ia,ib,mg,ac,bc⟩:=st;exact m00 ((by rwa [O,p,q,out,ia,ib,(mg - 1),bc,rfl,rfl,rfl])) ((by rwa [O,p,q,out,ia,ib,mg,bc,rfl,rfl,rfl]))
    ·obtain⟨o,out,ia,ib,mg,ac,bc⟩:=st;cases o with
     |some v=>exact b40 (à (some v,out,ia,ib,mg)) rfl|none=>exact b10 (j72 (mg + 1)) λ_=>b40 (Û (none,out,ia,ib,mg + 1)) rfl
 ·obtain⟨o,_⟩:=st;cases o with
  |none=>exact r90|some v=>exact b40 v rfl
def M32(t':Tw){S:Á5}(e:S=co κ it t'):n90 prog w A E s κ it (λu:PUnit=>u) (set S:StateT Á5 Sem PUnit):=⟨modify λ_=>t',by subst e;exact q50 (F:=λ_=>co κ it t') λ_=>rfl⟩
def y52{F:Á5->Á5}(G:Tw->Tw)(h:∀ t,F (co κ it t)=co κ it (G t)):n90 prog w A E s κ it (λu:Unit=>u) (modify F:StateT Á5 Sem Unit):=⟨modify G,q50 h⟩
theorem fold_map(f:Nat->Keyed)(d:Nat):∀ (l:List Nat) (j:Nat) (a:Array Nat),((l.map f).zipIdx j).foldl (λa x=>setIfInBounds a (d + x.2) x.1) (a.map f)=((l.zipIdx j).foldl (λa x=>setIfInBounds a (d + x.2) x.1) a).map f
 |[],_,_=>rfl
 |x::l,j,a=>by
  have e:(a.map f).setIfInBounds (d + j) (f x)=(a.setIfInBounds (d + j) x).map f:=by simp
  show((l.map f).zipIdx (j + 1)).foldl _ ((a.map f).setIfInBounds (d + j) (f x))=_;rw[e];exact fold_map f d l (j + 1) _
def spl(a:Array Nat)(d:Nat)(l:List Nat):Array Nat:=⟨a.toList.take d++(l++a.toList.drop (d + l.length))⟩
theorem P11(d:Nat):∀ (l:List Nat) (j:Nat) (a:Array Nat),d + j + l.length<=a.size->(l.zipIdx j).foldl (λa x=>setIfInBounds a (d + x.2) x.1) a=spl a (d + j) l
 |[],j,a,_=>by
  show a=_;unfold spl;rw[Ã0,Nat.add_zero,É1,List.take_append_drop]
 |x::l,j,a,h=>by
  have hl:d + j + (l.length + 1)<=a.toList.length:=h;show(l.zipIdx (j + 1)).foldl _ (a.setIfInBounds (d + j) x)=_;rw[P11 d l (j + 1) _ (by rw[Array.size_setIfInBounds];have:a.toList.length=a.size:=rfl;omega)]
  unfold spl;rw[Array.toList_setIfInBounds,Õ6,if_pos ∅]
  generalize a.toList=m at hl;have e1:(m.take (d + j)).length=d + j:=by rw[Ã4];omega
  have e2:(m.take (d + j)++x::m.drop (d + j + 1)).take (d + (j + 1))=m.take (d + j)++[x]:=by
   rw[List.take_append,e1,show d + (j + 1) - (d + j)=1 by omega,É6 (Þ (Ö7 e1) ∅)]
   rfl
  have e3:(m.take (d + j)++x::m.drop (d + j + 1)).drop (d + (j + 1) + l.length)=m.drop (d + j + (l.length + 1)):=by
   rw[List.drop_append,e1,show d + (j + 1) + l.length - (d + j)=l.length + 1 by omega,Ñ4 (Þ (Ö7 e1) ∅),List.drop_succ_cons,List.drop_drop,É1,show d + j + 1 + l.length=d + j + (l.length + 1) by omega]
  rw[e2,e3,Ê4];rfl
def y62{F:Á5->Á5}(c:Tw->Bool)(G:Tw->Tw)(h:∀ t,c t=true->F (co κ it t)=co κ it (G t)):n90 prog w A E s κ it (λu:Unit=>u) (modify F:StateT Á5 Sem Unit):=⟨λt=>match c t with
 |true=>some ((),G t)
 |false=>none,λt b t' e Q q=>by
 dsimp only at e;cases hc:c t with
 |false=>rw[hc] at e;cases e
 |true =>
  rw[hc] at e;cases e;refine kasC_modify ?_;rw[h t hc];exact q⟩
def f01(O:Ora prog w A s κ it n cmp)(i:Nat):n90 prog w A E s κ it (λ_:Unit=>true) (mergeAt' i):=by
 refine b10 V31 λt=>?_;generalize (Õ9 (co κ it t))[i]?=o1;generalize (Õ9 (co κ it t))[i + 1]?=o2;rcases o1 with _ | ⟨sa,na,pw⟩
 ·exact r90
 rcases o2 with _ | ⟨sb,nb,_⟩
 ·exact r90
 refine b10 (M32 { t with pending:=(t.pending.setIfInBounds i (sa,na + nb,pw)).eraseIdxIfInBounds (i + 1) } rfl) λ_=>?_;refine b10 (t10 t.a sb) λy=>b10 (Y30 O false y t.a sa na 0) λk=>?_;refine m00 (b40 () rfl) (b10 (t10 t.a _) λy=>b10 (Y30 O true y t.a sb nb (nb - 1)) λnb=>m00 (b40 () rfl) (m00 (b10 (G41 ?_ (G71 O (t.a.extract (sa + k) sb) (t.a.extract sb (sb + nb)))) λv=>?_) r90))
 ·rw[Ï8,Ï8];rfl
 ·refine b10 (y62 (λu=>ble (sa + k + v.toList.length) u.a.size) (λu=>{ u with a:=spl u.a (sa + k) v.toList }) λu hu=>?_) λ_=>b10 V31 λ_=>b40 () rfl;have e:=fold_map (ñ it) (sa + k) v.toList 0 u.a;rw[← Array.toList_map,P11 (sa + k) v.toList 0 u.a (Nat.le_of_ble_eq_true hu)] at e;exact congrArg (λa=>Ê5 κ a u.pending u.minGallop none) e
structure H82(prog:Program)(w:World)(A:Around)(E:Value->Shared->Prop)(s:Shared)(κ:SortKind)(it:Array Keyed)(z:Nat)(m:StateT SortSt Sem Unit) where
 body:Nat->Nat->TM (ForInStep Nat)
 tail:Nat->TM Unit
 sim:Sim prog w A E s κ it (λu:Unit=>u) m (u60 body z 0 0 >>= tail)
def mkH{α:Type}{r:Nat->α}{i:α}{z:Nat}(e0:i=r 0){B:Nat->α->StateT Á5 Sem (ForInStep α)}{k:α->StateT Á5 Sem Unit}(hb:∀ x lo,n90 prog w A E s κ it (A90 r) (B x (r lo)))(hk:∀ lo,n90 prog w A E s κ it (λu:Unit=>u) (k (r lo))) :
  H82 prog w A E s κ it z (forIn [0:z] i B >>= k) where
 body:=λx lo=>(hb x lo).1
 tail:=λlo=>(hk lo).1
 sim:=by
  subst e0;exact l90 (K40 λx b=>(hb x b).2) λb=>(hk b).2
structure l41(prog:Program)(w:World)(A:Around)(E:Value->Shared->Prop)(s:Shared)(κ:SortKind)(it:Array Keyed)(m:StateT SortSt Sem Unit) where
 body:Tw->Nat->Nat->TM (ForInStep Nat)
 tail:Tw->Nat->TM Unit
 sim:Sim prog w A E s κ it (λu:Unit=>u) m (get >>= λt=>u60 (body t) t.a.size 0 0 >>= tail t)
def mkW{F:Á5->StateT Á5 Sem Unit}(h:∀ t:Tw,H82 prog w A E s κ it t.a.size (F (co κ it t))):l41 prog w A E s κ it (get >>= F) where
 body:=λt=>(h t).body
 tail:=λt=>(h t).tail
 sim:=l90 Y20 λt=>(h t).sim
def l41.cast{m m':StateT Á5 Sem Unit}(e:m=m')(h:l41 prog w A E s κ it m'):l41 prog w A E s κ it m:=⟨h.body,h.tail,by rw[e];exact h.sim⟩
def j00(O:Ora prog w A s κ it n cmp):l41 prog w A E s κ it sortRuns':=by
 refine l41.cast sortRuns'_eq (mkW λt=>?_);generalize hz:Ô7 (arrOf (co κ it t))=z;have hz':t.a.size=z:=Array.size_map.symm.trans hz;clear hz;subst hz';refine mkH (r:=λm:Nat=>((none,m):Option Unit × Nat)) rfl (λ_ lo=>m00 (b40 (à lo) rfl) (b10 (j62 O _ _) λm=>?_)) (λ_=>?_)
 ·refine m00 (b10 (G51 _) λ_=>b10 (M22 O _ _ _) λ_=>m00 r90 (b10 V31 λu=>?_)) (b10 V31 λu=>?_)
  all_goals
   generalize Array.back? (Õ9 (co κ it u))=o1;rcases o1 with _ | ⟨s1,n1,_⟩
   ·exact b10 (y52 (λu=>{ u with pending:=u.pending.push (lo,_,0) }) λ_=>rfl) λ_=>b40 (Û (lo + _)) rfl
   ·refine b10 (r:=λ_:Unit=>((none,()):Option Unit × Unit)) (s00 () λ_ _=>b10 V31 λu=>?_) λ_=>b10 (y52 (λu=>{ u with pending:=u.pending.modify (u.pending.size - 1) λx=>(x.1,x.2.1,_) }) λ_=>rfl) λ_=>b10 (y52 (λu=>{ u with pending:=u.pending.push (lo,_,0) }) λ_=>rfl) λ_=>b40 (Û (lo + _)) rfl;dsimp only;generalize (if Ô7 (Õ9 (co κ it u)) > 1 then(Õ9 (co κ it u))[Ô7 (Õ9 (co κ it u)) - 2]? else none)=o2;rcases o2 with _ | ⟨_,_,old⟩
    ·exact b40 (à ()) rfl
    ·exact m00 (b40 (à ()) rfl) (b10 (f01 O _) λ_=>m00 r90 (b40 (Û ()) rfl))
 ·exact b10 (r:=λ_:Unit=>((none,()):Option Unit × Unit)) (s00 () λ_ _=>b10 V31 λu=>m00 (b40 (à ()) rfl) (b10 (f01 O _) λ_=>m00 r90 (b40 (Û ()) rfl))) λ_=>b40 () rfl
end
def upN:Nat->Nat->Nat->List Nat
 |0,_,h=>[h]|b + 1,v,h=>upN b (2 * v) (h + v)++upN b (2 * v) h
def neN:Nat->Nat->Nat->List Nat
 |0,_,_=>[]|b + 1,v,h=>(h + v)::(neN b (2 * v) (h + v)++neN b (2 * v) h)
def sN(b:Nat):List Nat:=0::neN b 1 0
def D20:Nat->Nat->Nat->List Nat
 |0,_,_=>[]|k + 1,i,m=>if Nat.testBit m 0 then i::D20 k (i + 1) (m / 2) else D20 k (i + 1) (m / 2)
def u42:List Nat->List Nat->Bool
 |[],[]=>false|[],_::_=>true|_::_,[]=>false|a::r,b::q=>if beq a b then u42 r q else Nat.blt a b
def x00(K i j:Nat):Bool:=u42 (D20 K 0 i) (D20 K 0 j)
section
variable {prog:Ü}{w:ì}{A:ö}{E:Ã->Å->Prop}{s:Å}{κ:Ë1}{it:Array Keyed}
def T0(K:Nat):Tw:=⟨⟨î (2 ^ K)⟩,#[],7⟩
def TZ(K p:Nat):Tw:=⟨⟨sN K⟩,#[(0,2 ^ K,p)],7⟩
theorem B00{β:Type}{f:Nat->β->TM (ForInStep β)}{n i:Nat}{b b':β}{t t':Tw}{r:Option (β × Tw)}(h:f i b t=some (.yield b',t'))(h2:u60 f n (i + 1) b' t'=r):u60 f (n + 1) i b t=r:=by
 show Option.bind (f i b t) _=r;rw[h];exact h2
def goW{K:Nat}(O:Ora prog w A s κ it (2 ^ K) (x00 K)):TM Unit:=get >>= λt=>u60 ((j00 (E:=E) O).body t) t.a.size 0 0 >>= (j00 (E:=E) O).tail t
theorem two{K n:Nat}{t:Tw}{r:Option (Unit × Tw)}(O:Ora prog w A s κ it (2 ^ K) (x00 K))(h:u60 ((j00 (E:=E) O).body (T0 K)) (2 ^ K) 0 0 (T0 K)=some (n,t))(h2:(j00 (E:=E) O).tail (T0 K) n t=r):goW (E:=E) O (T0 K)=r:=by
 show Option.bind (u60 ((j00 (E:=E) O).body (T0 K)) (î (2 ^ K)).length 0 0 (T0 K)) _=r;rw[þ,h];exact h2
theorem w1(O:Ora prog w A s κ it (2 ^ 1) (x00 1)):goW (E:=E) O (T0 1)=some ((),TZ 1 0):=by kernel_rfl
theorem w2(O:Ora prog w A s κ it (2 ^ 2) (x00 2)):goW (E:=E) O (T0 2)=some ((),TZ 2 0):=by kernel_rfl
theorem w3(O:Ora prog w A s κ it (2 ^ 3) (x00 3)):goW (E:=E) O (T0 3)=some ((),TZ 3 0):=by kernel_rfl
theorem w4(O:Ora prog w A s κ it (2 ^ 4) (x00 4)):goW (E:=E) O (T0 4)=some ((),TZ 4 0):=by kernel_rfl
theorem w5(O:Ora prog w A s κ it (2 ^ 5) (x00 5)):goW (E:=E) O (T0 5)=some ((),TZ 5 0):=by kernel_rfl
theorem w6(O:Ora prog w A s κ it (2 ^ 6) (x00 6)):goW (E:=E) O (T0 6)=some ((),TZ 6 1):=by kernel_rfl
theorem M42(O:Ora prog w A s κ it (2 ^ 7) (x00 7)):(j00 (E:=E) O).body (T0 7) 0 0 (T0 7)=some (.yield 32,⟨⟨sN 5++À7 32 96⟩,#[(0,32,0)],7⟩):=by kernel_rfl
theorem M52(O:Ora prog w A s κ it (2 ^ 7) (x00 7)):(j00 (E:=E) O).body (T0 7) 1 32 ⟨⟨sN 5++À7 32 96⟩,#[(0,32,0)],7⟩=some (.yield 64,⟨⟨sN 5++(upN 5 1 32++À7 64 64)⟩,#[(0,32,2),(32,32,0)],7⟩):=by kernel_rfl
theorem M62(O:Ora prog w A s κ it (2 ^ 7) (x00 7)):(j00 (E:=E) O).body (T0 7) 2 64 ⟨⟨sN 5++(upN 5 1 32++À7 64 64)⟩,#[(0,32,2),(32,32,0)],7⟩=some (.yield 96,⟨⟨sN 6++(upN 5 1 64++À7 96 32)⟩,#[(0,64,1),(64,32,0)],7⟩):=by kernel_rfl
theorem M72(O:Ora prog w A s κ it (2 ^ 7) (x00 7)):(j00 (E:=E) O).body (T0 7) 3 96 ⟨⟨sN 6++(upN 5 1 64++À7 96 32)⟩,#[(0,64,1),(64,32,0)],7⟩=some (.yield 128,⟨⟨sN 6++(upN 5 1 64++upN 5 1 96)⟩,#[(0,64,1),(64,32,2),(96,32,0)],7⟩):=by kernel_rfl
theorem M82(O:Ora prog w A s κ it (2 ^ 7) (x00 7)):u60 ((j00 (E:=E) O).body (T0 7)) 124 4 128 ⟨⟨sN 6++(upN 5 1 64++upN 5 1 96)⟩,#[(0,64,1),(64,32,2),(96,32,0)],7⟩=some (128,⟨⟨sN 6++(upN 5 1 64++upN 5 1 96)⟩,#[(0,64,1),(64,32,2),(96,32,0)],7⟩):=by kernel_rfl
theorem M92(O:Ora prog w A s κ it (2 ^ 7) (x00 7)):(j00 (E:=E) O).tail (T0 7) 128 ⟨⟨sN 6++(upN 5 1 64++upN 5 1 96)⟩,#[(0,64,1),(64,32,2),(96,32,0)],7⟩=some ((),TZ 7 1):=by kernel_rfl
theorem w7(O:Ora prog w A s κ it (2 ^ 7) (x00 7)):goW (E:=E) O (T0 7)=some ((),TZ 7 1):=two O (B00 (M42 O) (B00 (M52 O) (B00 (M62 O) (B00 (M72 O) (M82 O))))) (M92 O)
theorem N02(O:Ora prog w A s κ it (2 ^ 8) (x00 8)):(j00 (E:=E) O).body (T0 8) 0 0 (T0 8)=some (.yield 32,⟨⟨sN 5++À7 32 224⟩,#[(0,32,0)],7⟩):=by kernel_rfl
theorem N12(O:Ora prog w A s κ it (2 ^ 8) (x00 8)):(j00 (E:=E) O).body (T0 8) 1 32 ⟨⟨sN 5++À7 32 224⟩,#[(0,32,0)],7⟩=some (.yield 64,⟨⟨sN 5++(upN 5 1 32++À7 64 192)⟩,#[(0,32,3),(32,32,0)],7⟩):=by kernel_rfl
theorem N22(O:Ora prog w A s κ it (2 ^ 8) (x00 8)):(j00 (E:=E) O).body (T0 8) 2 64 ⟨⟨sN 5++(upN 5 1 32++À7 64 192)⟩,#[(0,32,3),(32,32,0)],7⟩=some (.yield 96,⟨⟨sN 6++(upN 5 1 64++À7 96 160)⟩,#[(0,64,2),(64,32,0)],7⟩):=by kernel_rfl
theorem N32(O:Ora prog w A s κ it (2 ^ 8) (x00 8)):(j00 (E:=E) O).body (T0 8) 3 96 ⟨⟨sN 6++(upN 5 1 64++À7 96 160)⟩,#[(0,64,2),(64,32,0)],7⟩=some (.yield 128,⟨⟨sN 6++(upN 5 1 64++(upN 5 1 96++À7 128 128))⟩,#[(0,64,2),(64,32,3),(96,32,0)],7⟩):=by kernel_rfl
theorem N42(O:Ora prog w A s κ it (2 ^ 8) (x00 8)):(j00 (E:=E) O).body (T0 8) 4 128 ⟨⟨sN 6++(upN 5 1 64++(upN 5 1 96++À7 128 128))⟩,#[(0,64,2),(64,32,3),(96,32,0)],7⟩=some (.yield 160,⟨⟨sN 7++(upN 5 1 128++À7 160 96)⟩,#[(0,128,1),(128,32,0)],7⟩):=by kernel_rfl
theorem N52(O:Ora prog w A s κ it (2 ^ 8) (x00 8)):(j00 (E:=E) O).body (T0 8) 5 160 ⟨⟨sN 7++(upN 5 1 128++À7 160 96)⟩,#[(0,128,1),(128,32,0)],7⟩=some (.yield 192,⟨⟨sN 7++(upN 5 1 128++(upN 5 1 160++À7 192 64))⟩,#[(0,128,1),(128,32,3),(160,32,0)],7⟩):=by kernel_rfl
theorem N62(O:Ora prog w A s κ it (2 ^ 8) (x00 8)):(j00 (E:=E) O).body (T0 8) 6 192 ⟨⟨sN 7++(upN 5 1 128++(upN 5 1 160++À7 192 64))⟩,#[(0,128,1),(128,32,3),(160,32,0)],7⟩=some (.yield 224,⟨⟨sN 7++(upN 6 1 128++(upN 5 1 192++À7 224 32))⟩,#[(0,128,1),(128,64,2),(192,32,0)],7⟩):=by kernel_rfl
theorem N72(O:Ora prog w A s κ it (2 ^ 8) (x00 8)):(j00 (E:=E) O).body (T0 8) 7 224 ⟨⟨sN 7++(upN 6 1 128++(upN 5 1 192++À7 224 32))⟩,#[(0,128,1),(128,64,2),(192,32,0)],7⟩=some (.yield 256,⟨⟨sN 7++(upN 6 1 128++(upN 5 1 192++upN 5 1 224))⟩,#[(0,128,1),(128,64,2),(192,32,3),(224,32,0)],7⟩):=by kernel_rfl
theorem N82(O:Ora prog w A s κ it (2 ^ 8) (x00 8)):u60 ((j00 (E:=E) O).body (T0 8)) 248 8 256 ⟨⟨sN 7++(upN 6 1 128++(upN 5 1 192++upN 5 1 224))⟩,#[(0,128,1),(128,64,2),(192,32,3),(224,32,0)],7⟩=some (256,⟨⟨sN 7++(upN 6 1 128++(upN 5 1 192++upN 5 1 224))⟩,#[(0,128,1),(128,64,2),(192,32,3),(224,32,0)],7⟩):=by kernel_rfl
theorem N92(O:Ora prog w A s κ it (2 ^ 8) (x00 8)):(j00 (E:=E) O).tail (T0 8) 256 ⟨⟨sN 7++(upN 6 1 128++(upN 5 1 192++upN 5 1 224))⟩,#[(0,128,1),(128,64,2),(192,32,3),(224,32,0)],7⟩=some ((),TZ 8 1):=by kernel_rfl
theorem w8(O:Ora prog w A s κ it (2 ^ 8) (x00 8)):goW (E:=E) O (T0 8)=some ((),TZ 8 1):=two O (B00 (N02 O) (B00 (N12 O) (B00 (N22 O) (B00 (N32 O) (B00 (N42 O) (B00 (N52 O) (B00 (N62 O) (B00 (N72 O) (N82 O))))))))) (N92 O)
theorem O02{K:Nat}(h1:1<=K)(h8:K<=8)(O:Ora prog w A s κ it (2 ^ K) (x00 K)):∃ p,goW (E:=E) O (T0 K)=some ((),TZ K p):=by
 match K,h1,h8,O with
 |1,_,_,O=>exact⟨_,w1 O⟩|2,_,_,O=>exact⟨_,w2 O⟩|3,_,_,O=>exact⟨_,w3 O⟩|4,_,_,O=>exact⟨_,w4 O⟩|5,_,_,O=>exact⟨_,w5 O⟩|6,_,_,O=>exact⟨_,w6 O⟩|7,_,_,O=>exact⟨_,w7 O⟩|8,_,_,O=>exact⟨_,w8 O⟩
theorem runL{K:Nat}{vs:List Ã}(h1:1<=K)(h8:K<=8)(hv:vs.length=2 ^ K)(O:Ora prog w A s κ (vs.toArray.zip vs.toArray) (2 ^ K) (x00 K)):MySort.y22 prog w A s vs (λp=>p=sN K) κ:=by
 refine⟨sN K,rfl,λE Q q=>?_⟩;obtain⟨pp,e⟩:=O02 (E:=E) h1 h8 O;have r:=(j00 (E:=E) O).sim (T0 K) () (TZ K pp) e (λu st s'=>s'=s/\failedOf st=none/\arrOf st=((sN K).toArray).map (ñ (vs.toArray.zip vs.toArray))) ⟨rfl,rfl,rfl⟩;have est:Ê5 κ (vs.toArray.zip vs.toArray) #[] 7 none=co κ (vs.toArray.zip vs.toArray) (T0 K):=by
  have e:=kas_range (vs.toArray.zip vs.toArray);rw[show(vs.toArray.zip vs.toArray).size=2 ^ K by simp[hv]] at e
  show _=Ê5 κ ((toArray (î (2 ^ K))).map (ñ (vs.toArray.zip vs.toArray))) #[] 7 none;rw[e]
 rw[est];refine Â4 r (λx s' h=>?_) λ_ _ e=>e;obtain⟨rfl,h2,h3⟩:=h;exact q x.2 h2 h3
end
end TS
namespace HT
open PySem PyProof.Rows
section
open PySem.SeqAt
open PySem.AutoSeq1 (wpAny_loadPart')
open PySem.MeetsSeq PySem.MeetsSeq2 PySem.MeetsSeq3
open MySort (k20)
def leB(ns ms:List Int):Bool:=!k20 ms ns
theorem G81(x y:Int)(r q:List Int):leB (x::r) (y::q)=if x=y then leB r q else decide (x<=y):=by
 show(!(if y=x then k20 q r else decide (y < x)))=_;by_cases e:x=y
 ·rw[if_pos e,if_pos e.symm];rfl
 ·rw[if_neg e,if_neg (Â2 e)];by_cases l:y < x
  ·rw[decide_eq_true l,decide_eq_false ∅];rfl
  ·rw[decide_eq_false l,decide_eq_true ∅];rfl
theorem G91(A:ö)(s:Å)(a:Int)(t:Tok)(c:Int)(u:Tok)(P:Ü)(w:ì)(E:Ã->Å->Prop)(Q:Ã->Å->Prop)(h:Q (.bool (decide (a<=c))) s):Ñ (Ö P w) A (richCompare .LtE (.int a t) (.int c u)) Q E s :=
 (PyProof.Rows.le_int h:Ñ (Ö P w) A (ø .LtE (.int a t) (.int c u)) Q E s)
theorem K50(l b:Æ)(i1 i2:Array Ã)(n n2:Nat)(dd dd2:Option Æ)(sl sl2:Array (Option Ã))(ns ms:List Int)(hi:É7 i1.toList ns)(hj:É7 i2.toList ms) :
  Meets (Ä3.«tuple.__le__» ⟨[.ref l,.ref b],[]⟩) (λ_ R s=>s.heap.get? l=some { cls:=.type "tuple",dict:=dd,data:=.seq i1 n,slots:=sl }/\s.heap.get? b=some { cls:=.type "tuple",dict:=dd2,data:=.seq i2 n2,slots:=sl2 }/\R (.ok (.ret (.bool (leB ns ms)))) s) :=
 .of_wp λP w A R s h=>by
  obtain⟨hp,g,d,tk,os⟩:=s;obtain⟨hl,hb,h⟩:=h;have f2:=Ù9;have z1:i1.size=ns.length:=by rw[← hi.length];simp
  have z2:i2.size=ms.length:=by rw[← hj.length];simp
  wp_walk using Ä1 hl,Ä1 hb,wpAny_forIn_list _ (λrest b s'=>b.1=none/\s'=⟨hp,g,d,tk,os⟩/\∃ (vs ws:List Ã) (ns' ms':List Int),rest=vs.zip ws/\É7 vs ns'/\É7 ws ms'/\ns'.length + i2.size=ms'.length + i1.size/\R (.ok (.ret (.bool (leB ns' ms')))) ⟨hp,g,d,tk,os⟩) _
  case turn =>
   rintro ⟨y,x⟩ rest b s' ⟨hb',rfl,vs,ws,ns',ms',hz,hvi,hwi,hlen,hR⟩;cases hvi with
   |nil=>rw[Ö2] at hz;cases hz
   |cons a t hvi' =>
    cases hwi with
    |nil=>rw[List.zip_nil_right] at hz;cases hz
    |cons c u hwi' =>
     rw[È4] at hz;injection hz with hyx hrest;injection hyx with hy hx;subst hy hx;rw[G81] at hR;simp only[Ô] at hlen;obtain⟨e,he,hiff⟩:=E51 A.in1 ⟨hp,g,d,tk,os⟩ a t c u;refine À (he P w _ _ ?_);cases e with
     |true =>
      rw[if_pos (hiff.mp rfl)] at hR;wp_walk;exact⟨rfl,rfl,_,_,_,_,hrest,hvi',hwi',by omega,hR⟩
     |false =>
      rw[if_neg (λq=>absurd (hiff.mpr q) Ò)] at hR;have hri:=G91 A.in1 ⟨hp,g,d,tk,os⟩ a t c u P w
      wp_walk using hri
      exact⟨_,rfl,by simpa using hR⟩
  case fin =>
   rintro ⟨b1,b2⟩ s' ⟨hb',rfl,vs,ws,ns',ms',hz,hvi,hwi,hlen,hR⟩;simp only at hb';subst hb';have hv:leB ns' ms'=decide (i1.size<=i2.size):=by
    cases hvi with
    |nil =>
     cases hwi with
     |nil=>simp only[Ã0] at hlen;exact(decide_eq_true ∅).symm|cons c u hw=>simp only[Ã0,Ô] at hlen;exact(decide_eq_true ∅).symm
    |cons a t hv =>
     cases hwi with
     |nil=>simp only[Ã0,Ô] at hlen;exact(decide_eq_false ∅).symm|cons c u hw=>rw[È4] at hz;cases hz
   rw[hv] at hR;wp_walk;exact⟨_,rfl,by simpa [tupleCompareSizes] using hR⟩
  case h=>exact⟨rfl,rfl,i1.toList,i2.toList,ns,ms,rfl,hi,hj,by omega,h⟩
end
section
variable {P:Ü}{w:ì}{A:ö}{E:Ã->Å->Prop}{s:Å}
theorem l51{l b:Æ}{i1 i2:Array Ã}{ns ms:List Int}{Q:Ã->Å->Prop}(hl:Í3 s.heap l i1)(hb:Í3 s.heap b i2)(hi:É7 i1.toList ns)(hj:É7 i2.toList ms)
  (hu:A.units < Å6) (h:Q (.bool (leB ns ms)) s):Ñ (Ö P w) A (ø .LtE (.ref l) (.ref b)) Q E s:=by
 obtain⟨⟨cls,dd,data,sl⟩,ho,hc,n,hd⟩:=id hl;obtain⟨⟨cls2,dd2,data2,sl2⟩,ho2,hc2,n2,hd2⟩:=id hb;simp only at hc hd hc2 hd2;subst hc hd hc2 hd2;exact richCompare_meets_room (op:=.LtE) ⟨_,ho,rfl⟩ ⟨_,ho2,rfl⟩ PySem.F.slot_tuple_le PySem.F.entry_tuple_le (PySem.F.args_tuple_le_2 _ _) (K50 l b i1 i2 n n2 dd dd2 sl sl2 ns ms hi hj)
  ⟨ho,ho2,show Ì9 (leB ns ms)≠Ó2/\Q (.bool (leB ns ms)) s from⟨(λx=>nomatch x),h⟩⟩ hu
theorem V41{t b:Æ}{ws:List Ã}{Q:Ã->Å->Prop}(ht:Í3 s.heap t #[])(hb:Í3 s.heap b ws.toArray)(h:Q (.ref b) s):Ñ (Ö P w) A (Ã1 .Add (.ref t) (.ref b)) Q E s:=by
 obtain⟨⟨cls,dd,data,sl⟩,ho,hc,n,hd⟩:=id ht;obtain⟨⟨cls2,dd2,data2,sl2⟩,ho2,hc2,n2,hd2⟩:=id hb;simp only at hc hd hc2 hd2;subst hc hd hc2 hd2;exact concat_meets ⟨_,ho,rfl⟩ ⟨_,ho2,rfl⟩ Û6 seq_tuple_add Ð1 Ï3 (Î0 _ _) (tuple_addW0 t b #[] ws.toArray n n2 dd dd2 sl sl2 (by simp)) ⟨ho,ho2,h⟩
theorem R00:seqRepeat? (.type "tuple")=pure (some (.builtin "tuple.__mul__")):=by
 first | kernel_rfl | rfl | (unfold seqRepeat?;kernel_rfl)
theorem B10:fillsNumberSlot (.type "tuple") "mul"=pure false:=by
 first | kernel_rfl | rfl
theorem l61(a:Int)(t:Tok)(l:Æ)(xs:Array Ã)(n:Nat)(dd:Option Æ)(sl:Array (Option Ã)) :
  Meets (Ä3.«int.__rmul__» ⟨[.int a t,.ref l],[]⟩) (λ_ R s=>s.heap.get? l=some { cls:=.type "tuple",dict:=dd,data:=.seq xs n,slots:=sl }/\R (.ok (.ret Ó2)) s) :=
 .of_wp λP w A R s h=>by obtain⟨hp,g,d,tk,os⟩:=s;obtain⟨hl,h⟩:=h;wp_walk;exact⟨_,rfl,h⟩
theorem H01(l:Æ)(xs:Array Ã)(k:Int)(u:Tok)(n:Nat)(dd:Option Æ)(sl:Array (Option Ã))(h1:¬ (decide (k < -(2 ^ 63)) || decide (k ≥ 2 ^ 63))=true)(h2:(xs.isEmpty || k == 1)=true) :
  Meets (Ä3.«tuple.__mul__» ⟨[.ref l,.int k u],[]⟩) (λ_ R s=>s.heap.get? l=some { cls:=.type "tuple",dict:=dd,data:=.seq xs n,slots:=sl }/\R (.ok (.ret (.ref l))) s) :=
 .of_wp λP w A R s h=>by
  obtain⟨hp,g,d,tk,os⟩:=s;obtain⟨hl,h⟩:=h;have f1:=Õ1
  wp_walk using Â6 hl
  simp only[h1,if_false]
  wp_walk using Â6 hl
  exact⟨_,rfl,h⟩
theorem mul_zero(l:Æ)(xs:Array Ã)(k:Int)(u:Tok)(n:Nat)(dd:Option Æ)(sl:Array (Option Ã))(h1:¬ (decide (k < -(2 ^ 63)) || decide (k ≥ 2 ^ 63))=true)(h2:¬ (xs.isEmpty || k == 1)=true)(h3:(decide (k<=0) || xs.isEmpty)=true) :
  Meets (Ä3.«tuple.__mul__» ⟨[.ref l,.int k u],[]⟩) (λ_ R s=>s.heap.get? l=some { cls:=.type "tuple",dict:=dd,data:=.seq xs n,slots:=sl }/\R (.ok (.ret (.ref s.heap.objs.size))) { s with heap:=s.heap.push { cls:=.type "tuple",data:=.seq #[] } }) :=
 .of_wp λP w A R s h=>by
  obtain⟨hp,g,d,tk,os⟩:=s;obtain⟨hl,h⟩:=h;have f1:=Õ1
  wp_walk using Â6 hl
  simp only[h1,if_false]
  wp_walk using Â6 hl
  exact⟨_,rfl,h⟩
theorem H11(l:Æ)(xs:Array Ã)(k:Int)(u:Tok)(n:Nat)(dd:Option Æ)(sl:Array (Option Ã))(h1:¬ (decide (k < -(2 ^ 63)) || decide (k ≥ 2 ^ 63))=true)(h2:¬ (xs.isEmpty || k == 1)=true)(h3:¬ (decide (k<=0) || xs.isEmpty)=true)
  (h4:¬ (xs.size:Int) * k > (2 ^ 63 - 1) / 8) (h5:¬ tupleTooMany ((xs.size:Int) * k)=true) (h6:(foldl (λx y=>x++y) #[] (é k.toNat xs)).size<=sizeLine) :
  Meets (Ä3.«tuple.__mul__» ⟨[.ref l,.int k u],[]⟩) (λ_ R s=>s.heap.get? l=some { cls:=.type "tuple",dict:=dd,data:=.seq xs n,slots:=sl }/\R (.ok (.ret (.ref s.heap.objs.size))) { s with heap:=s.heap.push { cls:=.type "tuple",data:=.seq (foldl (λx y=>x++y) #[] (é k.toNat xs)) } }) :=
 .of_wp λP w A R s h=>by
  obtain⟨hp,g,d,tk,os⟩:=s;obtain⟨hl,h⟩:=h;have f1:=Õ1
  wp_walk using Â6 hl
  simp only[h1,if_false]
  wp_walk using Â6 hl
  simp only[h4,h5,if_false];refine À (m:=Å4 _) (ò (Ç ?_) h6);exact⟨_,rfl,h⟩
end
theorem u70(f:α->Option β)(g:α->β):∀ (l:List α),(∀ k∈l,f k=some (g k))->l.filterMap f=l.map g
 |[],_=>rfl|x::r,h=>by rw[À1,h x Ê,Å1,u70 f g r λk hk=>h k (É _ hk)]
section
variable {P:Ü}{w:ì}{A:ö}{E:Ã->Å->Prop}{s:Å}
theorem t20{t sl:Æ}{xs:Array Ã}{vl vu:Ã}{lo hi:Option Int}{Q:Ã->Å->Prop}(ht:Í3 s.heap t xs)(hs:s.heap.IsSliceOf sl vl vu .none)(pl:Õ7 vl lo)(pu:Õ7 vu hi)
  (hw:sIx xs.size 0 lo=0/\sIx xs.size xs.size hi=xs.size) (h:Q (.ref t) s):Ñ (Ö P w) A (Ñ1 (.ref t) (.ref sl)) Q E s:=by
 obtain⟨os,hos,hcs,hds⟩:=id hs;have hTs:s.TypeIs (.ref sl) "slice":=⟨os,hos,hcs⟩;unfold Ñ1;try with_reducible refine Ã7 ?_
 first | refine À (Ç ?_) | skip
 refine À (Ú0 ht.typeIs (-0) ?_);refine À (Á8 (name:=À6 "__getitem__") ht.typeIs ï (Ä7 ï ht.typeIs entry_tuple_getitem ?_ (Ø9 _ _)))
 show Ñ _ _ (tupleItemsOf (.ref t) >>= _) _ _ s;refine À (tupleItemsOf_ ht (À (Ê9 hTs ?_)));rw[if_pos (-0)];refine À (n20 hs pl pu ?_)
 rw[hw.1,hw.2];show Ñ _ _ (if (((0:Nat):Int) == 0&&(1:Int) == 1&&(xs.size - 0) == xs.size)=true then _ else _) _ _ s;rw[if_pos (by simp)]
 refine À (m:=tupleIsExact _) ?_;unfold tupleIsExact;refine À (Ê9 ht.typeIs (Ç ?_));rw[if_pos (-0)]
 first
  |exact À (Ï5 (Ç ⟨_,rfl,Ç h⟩))
  |exact À (Ï5 (À (Ç (Ç ⟨_,rfl,Ç h⟩))))
theorem x40{t sl:Æ}{xs:List Ã}{u:Tok}{Q:Ã->Å->Prop}(ht:Í3 s.heap t xs.toArray)(hs:s.heap.IsSliceOf sl .none .none (.int (-1) u))
  (h:Q (.ref s.heap.objs.size) { s with heap:=s.heap.push { cls:=.type "tuple",data:=.seq xs.reverse.toArray } }) (hz:xs.length<=sizeLine):Ñ (Ö P w) A (Ñ1 (.ref t) (.ref sl)) Q E s:=by
 obtain⟨os,hos,hcs,hds⟩:=id hs;have hTs:s.TypeIs (.ref sl) "slice":=⟨os,hos,hcs⟩;unfold Ñ1;try with_reducible refine Ã7 ?_
 first | refine À (Ç ?_) | skip
 refine À (Ú0 ht.typeIs (-0) ?_);refine À (Á8 (name:=À6 "__getitem__") ht.typeIs ï (Ä7 ï ht.typeIs entry_tuple_getitem ?_ (Ø9 _ _)))
 show Ñ _ _ (tupleItemsOf (.ref t) >>= _) _ _ s;refine À (tupleItemsOf_ ht (À (Ê9 hTs ?_)));rw[if_pos (-0)]
 have app:∀ {R:Int × Int × Nat->Å->Prop},R ((xs.length:Int) - 1,-1,xs.length) s->Ñ (Ö P w) A.in1 (Ò5 (.ref sl) (pure (xs.toArray.size:Int))) R E s:=λ{R} q=>by
  unfold Ò5 sliceFields;refine À (À (À4 hos hds (x:=.none) rfl (À (À4 hos hds (x:=.none) rfl (À (À4 hos hds (x:=.int (-1) u) rfl (Ç ?_)))))));refine À (slicePart_int ?_);show Ñ _ _ (if ((-1:Int) == 0)=true then _ else _) _ _ s;rw[if_neg (-0)]
  refine À (Õ3 (À (Õ3 (À (Ç ?_)))));have e1:Ë7 none none (-1) (xs.toArray.size:Int)=((xs.length:Int) - 1,-1):=by simp[Ë7]
  have e2:Ç5 ((xs.length:Int) - 1) (-1) (-1)=xs.length:=by
   unfold Ç5;rw[if_neg (-0)]
   split
   ·simp only[Int.neg_neg,Int.ediv_one];omega
   ·omega
  show Ñ _ _ (match Ë7 none none (-1) (xs.toArray.size:Int) with | (lo,hi)=>pure (lo,(-1:Int),Ç5 lo hi (-1))) _ _ s
  rw[e1];show Ñ _ _ (pure ((xs.length:Int) - 1,(-1:Int),Ç5 ((xs.length:Int) - 1) (-1) (-1))) _ _ s;rw[e2];exact Ç q
 refine À (app ?_);show Ñ _ _ (if (((xs.length:Int) - 1) == 0&&(-1:Int) == 1&&xs.length == xs.toArray.size)=true then _ else _) _ _ s;rw[if_neg (by simp)]
 have pick:((î xs.length).filterMap λ(k:Nat)=>xs.toArray[((xs.length:Int) - 1 + (k:Int) * -1).toNat]?)=xs.reverse:=by
  refine List.ext_getElem? λi=>?_;have hall:∀ k∈î xs.length,xs.toArray[((xs.length:Int) - 1 + (k:Int) * -1).toNat]?=some (xs.getD (xs.length - 1 - k) â):=λk hk=>by
   have hk':k < xs.length:=by simpa using hk
   have e:((xs.length:Int) - 1 + (k:Int) * -1).toNat=xs.length - 1 - k:=by omega
   rw[e];have:xs.length - 1 - k < xs.length:=by omega
   simp[this]
  rw[u70 _ _ _ hall,Ø];by_cases hi:i < xs.length
  ·have h2:xs.length - 1 - i < xs.length:=by omega
   rw[Ì3 hi,List.getElem?_reverse hi];simp[h2]
  ·rw[Ý5 (by simpa using hi),Ý5 (by simpa using hi)];rfl
 rw[pick];have hsz:sizeOk (.seq xs.reverse.toArray):=by show xs.reverse.toArray.size<=sizeLine;rw[Õ,Ô2];exact hz
 first
  |exact À (m:=Å4 _) (ò (Ç ⟨_,rfl,Ç h⟩) hsz)
  |exact À (m:=Å4 _) (ò (À (Ç (Ç ⟨_,rfl,Ç h⟩))) hsz)
  |exact À (À (m:=Å4 _) (ò (Ç (Ç ⟨_,rfl,Ç h⟩)) hsz))
  |exact À (À (m:=Å4 _) (ò (Ç ⟨_,rfl,Ç h⟩) hsz))
end
end HT
namespace L2
open PySem PySem.Spec PyProof.Rows
theorem a20.sqT{K:Â}{H H':Hp}{a:Æ}{xs:List V}(e:a20 H H')(h:SqT K H a xs):SqT K H' a xs:=by
 rcases h with (h | ⟨o,h⟩) | h
 ·exact .inl (.inl (e _ _ h))
 ·exact .inl (.inr ⟨o,e _ _ h⟩)
 ·exact .inr h
theorem a20.new(o:HO)(n:H p=none):a20 H (upd H p o):=λb u e=>by rw[a40 (a80 e n)];exact e
def H21(K:Â)(H:Hp)(zs:List V)(Q:VK):Prop:=∀ p H',a20 H H'->SqT K H' p zs->Q (.ref p) H'
section
variable {X:Cx}{pins:List (Æ × Obj)}{σ:St}{H:Hp}{s:Å}
theorem H21.here(q:H21 X.K H zs Q)(I:Inv X pins σ H s)(h:SqT X.K H a zs):EP X pins σ Q (.ref a) s:=⟨.ref a,H,I,rfl,q a H (a20.refl H) h⟩
theorem H21.new(q:H21 X.K H zs Q)(I:Inv X pins σ H s)(r:Vals zs us)(hz:zs.length<=sizeLine) :
  EP X pins σ Q (.ref s.heap.objs.size) { s with heap:=s.heap.push { cls:=.type "tuple",data:=.seq us.toArray } } :=
 have hn:H s.heap.objs.size=none:=I.hok.fresh (Ë _)
 ⟨.ref s.heap.objs.size,_,I.laid (t':=s.toks) (o:=.tup zs) (λb ob q=>Ä _ q) (Ë _) ⟨hz,_,r,Í3.new _ _⟩,rfl,q _ _ (a20.new _ hn) (SqT.of a90)⟩
end
section
variable {X:Cx}
def O12(K:Â):R2:=λx y H Q=>∃ a b ns ms,x=.ref a/\y=.ref b/\SqT K H a (ns.map V.int)/\SqT K H b (ms.map V.int)/\Q (.bl (HT.leB ns ms)) H
theorem j82(hu:X.A.units < Å6):OpR X (ø .LtE) (O12 X.K):=by
 intro pins s σ H x y v u Q I rx ry h;obtain⟨a,b,ns,ms,rfl,rfl,ha,hb,q⟩:=h;cases rx;cases ry;obtain⟨v1,r1,p1,_⟩:=I.tuple ha;obtain⟨v2,r2,p2,_⟩:=I.tuple hb;exact HT.l51 p1 p2 (show É7 v1.toArray.toList ns from intsAre_of r1) (show É7 v2.toArray.toList ms from intsAre_of r2) hu ⟨.bl (HT.leB ns ms),H,I,rfl,q⟩
def y72(K:Â):R2:=λx y H Q=>∃ a b xs ys,x=.ref a/\y=.ref b/\SqT K H a xs/\SqT K H b ys/\xs.length + ys.length<=sizeLine/\H21 K H (xs++ys) Q
theorem V51:OpR X (Ã1 .Add) (y72 X.K):=by
 intro pins s σ H x y v u Q I rx ry h;obtain⟨a,b,xs,ys,rfl,rfl,ha,hb,hz,q⟩:=h;cases rx;cases ry;obtain⟨v1,r1,p1,_⟩:=I.tuple ha;obtain⟨v2,r2,p2,_⟩:=I.tuple hb;by_cases hx:xs=[]
 ·subst hx;have e:=r1.J10.mpr rfl;subst e;exact HT.V41 p1 p2 (q.here I hb)
 ·refine HT.T51 p1 p2 (λz=>hx (r1.J10.mp z)) (λz=>?_) (λz=>q.new I (r1.append r2) (by rw[Â0];exact hz)) (by rw[← r1.length,← r2.length];exact hz)
  have e:=r2.J10.mp z;subst e;rw[É2] at q;exact q.here I ha
def y82(K:Â):R2:=λx y H Q=>∃ a k xs,x=.ref a/\y=.int k/\SqT K H a xs/\0<=k/\k < 1000000/\k.toNat * xs.length<=sizeLine/\H21 K H (é k.toNat xs).flatten Q
theorem V61:OpR X (Ã1 .Mult) (y82 X.K):=by
 intro pins s σ H x y v u Q I rx ry h;obtain⟨a,k,xs,rfl,rfl,ha,hk,hk2,hz,q⟩:=h;cases rx;obtain⟨t,rfl⟩:=ry;obtain⟨v1,r1,p1,_⟩:=I.tuple ha;have hl:=r1.length;obtain⟨⟨cls,dd,data,sl⟩,ho,hc,n,hd⟩:=id p1;simp only at hc hd;subst hc hd;have h1:¬ (decide (k < -(2 ^ 63)) || decide (k ≥ 2 ^ 63))=true:=by simp;omega
 refine wpAny_binaryOp_repeat_ref (T:="tuple") (U:="int") (-0) ⟨_,ho,rfl⟩ (λs'=>Ø7 s' k t) HT.B10 F.fills_int_mul Ó7 HT.R00 F.slot_int_index.lookup
  (Æ9 Ó7 (Ø7 s k t) F.entry_int_rmul (F.args_int_rmul_2 _ _) (HT.l61 k t a v1.toArray n dd sl) ⟨ho,rfl,⟨_,ho,rfl⟩,?_⟩)
 by_cases hx:v1=[]∨k=1
 ·refine Æ9 Ú8 ⟨_,ho,rfl⟩ Ù5 (Ö9 _ _) (HT.H01 a v1.toArray k t n dd sl h1 (by rcases hx with hx | hx <;> simp[hx])) ⟨ho,?_⟩
  have e2:(é k.toNat xs).flatten=xs:=by
   rcases hx with hx | hx
   ·rw[r1.J10.mp hx];simp
   ·rw[hx];simp
  rw[e2] at q;exact q.here I ha
 ·have hv:v1≠[]:=λz=>hx (.inl z);have h2:¬ (v1.toArray.isEmpty || k == 1)=true:=by simp[hv];exact λz=>hx (.inr z)
  by_cases hk0:k=0
  ·refine Æ9 Ú8 ⟨_,ho,rfl⟩ Ù5 (Ö9 _ _) (HT.mul_zero a v1.toArray k t n dd sl h1 h2 (by simp[hk0])) ⟨ho,?_⟩
   rw[show(é k.toNat xs).flatten=[] by rw[hk0];rfl] at q
   exact q.new I .nil (Å8 _)
  have hpos:0 < v1.length:=List.length_pos_iff.mpr hv;have hfl:foldl (λx y=>x++y) #[] (é k.toNat v1.toArray)=(é k.toNat v1).flatten.toArray:=by
   have:=foldl_rep v1 k.toNat [];rw[É1] at this;exact this
  have hsz:v1.length * k.toNat<=sizeLine:=by rw[← hl,Ö6];exact hz
  have hcast:((v1.toArray.size:Nat):Int) * k=((v1.length * k.toNat:Nat):Int):=by rw[Õ,Int.natCast_mul,Int.toNat_of_nonneg ∅]
  have hline:(sizeLine:Nat)<=(2 ^ 63 - 1) / 8:=by decide
  refine Æ9 Ú8 ⟨_,ho,rfl⟩ Ù5 (Ö9 _ _) (HT.H11 a v1.toArray k t n dd sl h1 h2 (by simp[hv];omega) (by rw[hcast];generalize v1.length * k.toNat=m at hsz;omega) (by rw[hcast];generalize v1.length * k.toNat=m at hsz;unfold tupleTooMany;intro z;have z':=of_decide_eq_true z;omega)
   (by rw[hfl,Õ,len_rep,Ö6];exact hsz)) ⟨ho,?_⟩
  rw[hfl];exact q.new I (r1.rep k.toNat) (by rw[len_rep];exact hz)
def O22(K:Â):V->Option Int->Option Int->Hp->VK->Prop:=λx lo hi H Q=>∃ a xs,x=.ref a/\SqT K H a xs/\H21 K H (E81 xs lo hi) Q
theorem V71:SlR X (O22 X.K):=by
 intro pins s σ H x v vl vu lo hi sl Q I rx hs pl pu h;obtain⟨a,xs,rfl,hx,q⟩:=h;cases rx;obtain⟨its,r,ht,hz⟩:=I.tuple hx;have hlen:its.toArray.size=xs.length:=by rw[Õ];exact r.length.symm
 refine⟨"tuple",_,ï.lookup,ht.typeIs,?_⟩;by_cases hw:HT.sIx xs.length 0 lo=0/\HT.sIx xs.length xs.length hi=xs.length
 ·refine HT.t20 ht hs pl pu (by rw[hlen];exact hw) ?_
  have e:E81 xs lo hi=xs:=by unfold E81;rw[hw.1,hw.2];simp
  rw[e] at q;exact q.here I hx
 ·refine HT.x20 ht hs pl pu (by rw[hlen];exact hw) ?_ (by rw[hlen];exact hz)
  rw[hlen];exact q.new I ((r.drop (HT.sIx xs.length 0 lo)).take (HT.sIx xs.length xs.length hi - HT.sIx xs.length 0 lo)) (Þ (C80 xs lo hi) hz)
def u32(K:Â)(te ts:TE):TE:=λσ H Q=>te σ H λx H1=>ts σ H1 λy H2=>y=.int (-1)/\((∃ a xs,x=.ref a/\SqT K H2 a xs/\H21 K H2 xs.reverse Q)∨∃ a xs,x=.ref a/\SqL K H2 a xs/\∀ p,H2 p=none->Q (.ref p) (upd H2 p (.lst xs.reverse)))
theorem H92{e st:Ï}{te ts:TE}{p2 pos:Pos}(he:PE X e te)(hst:PE X st ts):PE X (.Subscript e (.Slice none none (some st) p2) pos) (u32 X.K te ts):=by
 intro pins s σ H Q I h;refine Subscript_ (thn (he pins s σ H _ I h) λv s1 ⟨x,H1,I1,r1,q1⟩=>?_);refine wpAny_Slice ?_;rw[evalPart_none];refine Ç (Ç ?_);rw[evalPart_some];refine thn (hst pins s1 σ H1 _ I1 q1) λw' s2 ⟨y,H2,I2,r2,q2⟩=>?_;obtain⟨rfl,q2⟩:=q2;obtain⟨t,rfl⟩:=r2;have I4:Inv X pins σ H2 { s2 with heap:=s2.heap.push { cls:=.type "slice",data:=.fields #[.none,.none,.int (-1) t] } }:=I2.kept (t':=s2.toks) λb ob q=>Ä _ q;show Ñ (Ö X.prog X.w) X.A (subscriptTail e (.Slice none none (some st) p2) v (.ref s2.heap.objs.size)) (EP X pins σ Q) X.xe { s2 with heap:=s2.heap.push { cls:=.type "slice",data:=.fields #[.none,.none,.int (-1) t] } };rcases q2 with ⟨a,xs,rfl,hq,q⟩ | ⟨a,xs,rfl,hq,q⟩
 ·cases r1;obtain⟨its,r,ht,hz⟩:=I4.tuple hq;exact tail_any (ops:=[.ref a,.ref s2.heap.objs.size]) ht.typeIs ï.lookup (HT.x40 ht (Ð8 ..) (q.new I4 r.reverse (by rw[Ô2];exact hz)) (by rw[← r.length];exact hz)) (by with_unfolding_all rfl)
 ·cases r1;obtain⟨its,r,ht,hz⟩:=I4.list hq;have hlen:=r.length;refine tail_any (ops:=[.ref a,.ref s2.heap.objs.size]) ht.isList.typeIs slot_list_getitem.lookup (wpAny_getItem_list_slice ht.isList (Ð8 ..) .none .none (.int (-1) t) (by simp) ?_ (by rw[Õ] <;> omega)) (by with_unfolding_all rfl)
  rw[PySem.W.krv_pick];refine⟨.ref _,_,I4.laid (t':=s2.toks) (o:=.lst xs.reverse) (λb ob q=>Ä _ q) (Ë _) ?_,rfl,q _ (I4.hok.fresh (Ë _))⟩;exact⟨by rw[Ô2];exact hz,its.reverse,0,r.reverse,Î _ rfl⟩
theorem j92:OpR X (ø .Is) (λx y H Q=>∃ b c,x=.bl b/\y=.bl c/\Q (.bl (b == c)) H):=by
 intro pins s σ H x y v u Q I rx ry h;obtain⟨b,c,rfl,rfl,q⟩:=h;cases rx;cases ry;exact is_bool (e11 I q rfl)
theorem k02:OpR X (ø .IsNot) (λx y H Q=>∃ b c,x=.bl b/\y=.bl c/\Q (.bl (b != c)) H):=by
 intro pins s σ H x y v u Q I rx ry h;obtain⟨b,c,rfl,rfl,q⟩:=h;cases rx;cases ry;exact isnot_bool (e11 I q rfl)
theorem Inv.big(I:Inv X pins σ H s):sysModules < s.heap.objs.size:=by
 have h:Ý < s.heap.objs.size:=(I.mod.glob.keeps I.bk).lt;exact Nat.lt_trans (-0) h
def y92:TE:=λ_ H Q=>∀ p,H p=none->Q (.ref p) (upd H p (.dK []))
theorem V81:PE X (.Dict [] [] pos) y92:=λpins s σ H Q I h =>
 wpAny_Dict_empty ⟨.ref s.heap.objs.size,_,I.laid (a:=s.heap.objs.size) (o:=.dK []) (t':=s.toks) (λ_ _ q=>Ä _ q) (Ë _) ⟨Å8 _,beq_eq_false_iff_ne.mpr (Â2 (å I.big)),[],.nil,æ.DictOf.new _⟩,rfl,h _ (I.hok.fresh (Ë _))⟩
end
end L2
namespace MySort
open PySem PySem.W PyProof.Rows
section
variable {P:Ü}{w:ì}{A:ö}{E:Ã->Å->Prop}{s:Å}
theorem Y50{l:Æ}{o:Obj}{vs:List Ã}{n:Nat}{Q:List Ã->Å->Prop}(ho:s.heap.get? l=some o)(hc:o.cls=.type "list"∨o.cls=.type "tuple")(hd:o.data=.seq vs.toArray n)
  (h:Q vs { s with heap:=(s.heap.push (Â9 "list" #[] 0)).update s.heap.objs.size (À5 (·++vs.toArray)) }) (hz:vs.length<=sizeLine):Ñ (Ö P w) A (collect (.ref l)) Q E s:=by
 unfold collect;refine À (wpAny_runValue (É5 entry_proto_collect' ?_));show Ñ _ _ (do again (.builtin "list.__iadd__" ⟨[← newList [],.ref l],[]⟩)) _ _ s;refine À (wpAny_newList (Ç ⟨Code.quiet_builtin _ (by decide +kernel),É5 entry_list_iadd' ?_⟩))
 show Ñ _ _ (Ê7 (.ref s.heap.objs.size) (.ref l) (.ref s.heap.objs.size)) _ _ { s with heap:=s.heap.push (Â9 "list" #[] 0) };unfold Ê7;have ho':(s.heap.push (Â9 "list" #[] 0)).get? l=some o:=Ä _ ho;have fin:Ñ (Ö P w) A (do
   let o ← load s.heap.objs.size
   match o.data with
   |.seq xs _=>pure xs.toList
   |_=>unsupported "internal:collect") Q E { s with heap:=(s.heap.push (Â9 "list" #[] 0)).update s.heap.objs.size (À5 (·++vs.toArray)) }:=by
  refine À (wpAny_load (Ü9 (Î _ rfl) _) ?_);show Ñ _ _ (pure ((#[]:Array Ã)++vs.toArray).toList) Q E _;rw[show((#[]:Array Ã)++vs.toArray).toList=vs by simp];exact Ç h
 rcases hc with hc | hc
 ·refine À (Ê9 (T:="list") ⟨o,ho',hc⟩ ?_);rw[if_pos (by rw[show(Â7 "list" == Â7 "list")=true by rfl];simp)]
  refine À (Î9 ho' hd (À (Î9 (xs:=#[]) (n:=0) (Î _ rfl) rfl ?_)));rw[if_neg (by simp)]
  exact À (Ø3 (xs:=#[]) (n:=0) (Î _ rfl) rfl (Ç fin) (Å8 _) (by show(#[]++vs.toArray).size<=sizeLine + 1;simp only[Array.size_append,Õ,Ã0];omega))
 ·refine À (Ê9 (T:="tuple") ⟨o,ho',hc⟩ ?_);rw[if_pos (by rw[show(Â7 "tuple" == Â7 "tuple")=true by rfl];simp)]
  refine À (Î9 ho' hd (À (Î9 (xs:=#[]) (n:=0) (Î _ rfl) rfl ?_)));rw[if_neg (by simp)]
  exact À (Ø3 (xs:=#[]) (n:=0) (Î _ rfl) rfl (Ç fin) (Å8 _) (by show(#[]++vs.toArray).size<=sizeLine + 1;simp only[Array.size_append,Õ,Ã0];omega))
theorem s41{l:Æ}{o:Obj}{vs:List Ã}{Pr:List Nat->Prop}{kd:Ë1}{n:Nat}{Q:Ã->Å->Prop}(ho:s.heap.get? l=some o)(hc:o.cls=.type "list"∨o.cls=.type "tuple")(hd:o.data=.seq vs.toArray n)
  (hk:∀ h',s11 s.heap h'->j32 P w A.in1.in1 { s with heap:=h' } vs Pr kd)
  (h:∀ (p:List Nat) (h':æ) (c:Nat),Pr p->(∀ b o,s.heap.get? b=some o->h'.get? b=some o)->h'.get? (s.heap.objs.size + 1)=some (Â9 "list" (p.map λi=>vs.getD i â).toArray c)->Q (.ref (s.heap.objs.size + 1)) { s with heap:=h' }) :
  Ñ (Ö P w) A (call (.builtin "sorted") [.ref l]) Q E s:=by
 have h64:=(hk s.heap λ_ _ e _=>e).len;refine Calls.call_function_entry kind_sorted plain_sorted entry_sorted (args_sorted1 _) ?_;unfold Ä3.«sorted»;refine À (m:=checkCount "sorted" 1 1 _) (Ç ?_);refine À (Y50 ho hc hd ?_ (by rw[Á4];omega));refine À (wpAny_newList ?_ (by rw[Á4];omega))
 have hsz:((s.heap.push (Â9 "list" #[] 0)).update s.heap.objs.size (À5 (·++vs.toArray))).objs.size=s.heap.objs.size + 1:=by rw[æ.size_update,size_push']
 have hoL:(((s.heap.push (Â9 "list" #[] 0)).update s.heap.objs.size (À5 (·++vs.toArray))).push (Â9 "list" vs.toArray 0)).get? (s.heap.objs.size + 1)=some (Â9 "list" vs.toArray 0):=by rw[← hsz];exact Î _ rfl
 have keep:∀ b o,s.heap.get? b=some o->(((s.heap.push (Â9 "list" #[] 0)).update s.heap.objs.size (À5 (·++vs.toArray))).push (Â9 "list" vs.toArray 0)).get? b=some o:=λb o q=>by
  have hlt:b < s.heap.objs.size:=ß q;rw[æ.get?_push_ne _ _ _ (by rw[hsz];exact å (Ë5 hlt)),æ.get?_update_ne _ _ _ _ (å hlt),æ.get?_push_ne _ _ _ (å hlt)];exact q
 show Ñ _ _ _ _ _ { s with heap:=((s.heap.push (Â9 "list" #[] 0)).update s.heap.objs.size (À5 (·++vs.toArray))).push (Â9 "list" vs.toArray 0) };rw[hsz];refine À (Ã7 (Ä7 slot_list_sort ⟨_,hoL,rfl⟩ entry_list_sort (G01 hoL (λh' kp=>hk h' λb o e hc=>kp b o (keep b o e) hc) λp h' c hp kp hD=>⟨_,rfl,Ç ⟨_,rfl,h p h' c hp (λb o e=>kp b o (å (Ë5 (ß e))) (keep b o e)) hD⟩⟩) (args_list_sort _)))
end
end MySort
namespace L2
open PySem PySem.Spec PyProof.Rows
open MySort (sortedBy)
section
variable {X:Cx}
def V91(X:Cx)(H:Hp)(xs:List V)(Pr:List Nat->Prop):Prop:=∀ (pins:List (Æ × Obj)) (σ:St) (s:Å) (us:List Ã),Inv X pins σ H s->Vals xs us->∃ kd,∀ h',MySort.s11 s.heap h'->MySort.j32 X.prog X.w X.A.in1.in1 { s with heap:=h' } us Pr kd
theorem z40:f50 X (.builtin "sorted") (λargs H Q=>∃ a xs,∃ Pr:List Nat->Prop,args=[.ref a]/\(SqL X.K H a xs∨SqT X.K H a xs)/\V91 X H xs Pr/\(∀ p,Pr p->∀ i∈p,i < xs.length)/\∀ p l,Pr p->H l=none->Q (.ref l) (upd H l (.lst (p.map λi=>xs.getD i .non)))):=by
 intro pins s σ H args us Q I r h;obtain⟨a,xs,Pr,rfl,hq,hk,hpr,q⟩:=h;obtain⟨u,rfl,rx⟩:=vals1 r;cases rx;have go:∀ (its:List Ã) (o:Obj) (n:Nat),Vals xs its->s.heap.get? a=some o->(o.cls=.type "list"∨o.cls=.type "tuple")->o.data=.seq its.toArray n->Ñ (Ö X.prog X.w) X.A (call (.builtin "sorted") [.ref a]) (EP X pins σ Q) X.xe s:=λits o n rv ho hc hd=>by
  obtain⟨kd,kw⟩:=hk pins σ s its I rv;have k0:=kw s.heap λ_ _ e _=>e;refine MySort.s41 ho hc hd kw λp h' c hp kp hD=>?_;have hn:H (s.heap.objs.size + 1)=none:=I.hok.fresh (È0 _ 1);have hlen:(p.map λi=>xs.getD i .non).length<=sizeLine:=by rw[È,k0.all p hp,Á4];have:=k0.len;omega
  have rv':Vals (p.map λi=>xs.getD i .non) (p.map λi=>its.getD i â):=by
   have hall:=hpr p hp;clear hp hD hlen
   induction p with
   |nil=>exact .nil
   |cons i r ih =>
    refine .cons ?_ (ih λj hj=>hall j (É _ hj));have hi:=hall i Ê;obtain⟨u,hu,ru⟩:=rv.get (i:=i) (x:=xs[i]) (by simp[hi])
    have e1:xs.getD i V.non=xs[i]:=by simp[hi]
    have e2:its.getD i â=u:=by rw[Ó,hu];rfl
    show RelV (xs.getD i V.non) (its.getD i â);rw[e1,e2];exact ru
  exact⟨.ref (s.heap.objs.size + 1),_,I.laid (t':=s.toks) kp (È0 _ 1) (show h50 X.prog X.w _ h' _ (.lst _) from⟨hlen,_,c,rv',hD⟩),rfl,q p _ hp hn⟩
 rcases hq with hq | hq
 ·obtain⟨its,rv,pl,_⟩:=I.list hq;obtain⟨o,ho,hc,n,hd⟩:=pl.isList;exact go its o n rv ho (.inl hc) hd
 ·obtain⟨its,rv,⟨o,ho,hc,n,hd⟩,_⟩:=I.tuple hq;exact go its o n rv ho (.inr hc) hd
end
section
variable {K:Â}{g:TG}{tt:TT}{te:TE}{σ0:St}{H:Hp}{Q:VK}
theorem H31{lo:Int}{n:Nat}(Pv:Nat->List V->Hp->Prop)(hz:n<=sizeLine)(h0:Pv 0 [] H)(hl:∀ i ys H,Pv i ys H->ys.length<=i)
  (hs:∀ i ys H,i < n->Pv i ys H->g (.int (lo + i)) σ0 H λσ2 H2=>tt σ2 H2 λb H3=>if b=true then te σ2 H3 (λy H4=>Pv (i + 1) (ys++[y]) H4) else Pv (i + 1) ys H3)
  (hd:∀ ys H p,Pv n ys H->H p=none->Q (.ref p) (upd H p (.lst ys))):r11 (Itr lo n) σ0 H g tt te Q:=by
 refine⟨λi m ys H=>m=n - i/\i<=n/\Pv i ys H,⟨n,by simp,Å8 _,h0⟩,?_⟩
 rintro i m ys H ⟨rfl,hi,p⟩;have hy:=hl i ys H p;by_cases hlt:i < n
 ·refine .inr ⟨hlt,by omega,Pv (i + 1),λzs H' p'=>⟨n - (i + 1),by omega,rfl,hlt,p'⟩,λx H' y=>?_⟩
  obtain⟨e,y⟩:=y;subst e y;exact hs i ys _ hlt p
 ·have e:i=n:=by omega
  subst e;exact .inl ⟨Ë _,λz hz=>hd ys H z p hz⟩
end
inductive D where
 |non | bl (b:Bool) | int (i:Int) | str (x:Str) | tup (ds:List D) | lst (ds:List D) | dct
def D.ty:D->String
 |.non=>"NoneType"|.bl _=>"bool"|.int _=>"int"|.str _=>"str"|.tup _=>"tuple"|.lst _=>"list"|.dct=>"dict"
mutual
def Has(K:Â)(H:Hp):D->V->Prop
 |.non,v=>v=.non|.bl b,v=>v=.bl b|.int i,v=>v=.int i|.str x,v=>v=.str x|.tup ds,v=>∃ a xs,v=.ref a/\SqT K H a xs/\H00 K H ds xs|.lst ds,v=>∃ a xs,v=.ref a/\SqL K H a xs/\H00 K H ds xs|.dct,v=>∃ a kvs,v=.ref a/\H a=some (.dK kvs)
def H00(K:Â)(H:Hp):List D->List V->Prop
 |[],xs=>xs=[]|d::ds,xs=>∃ x r,xs=x::r/\Has K H d x/\H00 K H ds r
end
def isB(T C:String):Bool:=T == C || (T == "bool"&&C == "int")
theorem W01(K:Â)(d:D):∀ C∈["int","bool","tuple","list","str"],Ì0 K (.type d.ty) (.type C)=some (isB d.ty C):=by
 intro C hC;simp only[Á7,Á6,or_false] at hC;rcases hC with rfl | rfl | rfl | rfl | rfl <;> cases d <;> first | rfl | kernel_rfl | decide +kernel
section
variable {X:Cx}
theorem H41:f50 X (.builtin "isinstance") (λxs H Q=>∃ d x C,xs=[x,.ty C]/\Has X.K H d x/\C∈["int","bool","tuple","list","str"]/\Q (.bl (isB d.ty C)) H):=by
 intro pins s σ H xs us Q I r h;obtain⟨d,x,C,rfl,hd,hC,q⟩:=h;obtain⟨u,w',rfl,rx,rt⟩:=vals2 r;cases (show w'=Â7 C from rt);have e:=W01 X.K d C hC;have fin:∀ tk,EP X pins σ Q (.bool (isB d.ty C)) { s with toks:=tk }:=λtk=>⟨.bl _,H,I.tok tk,rfl,q⟩;cases d with
 |non=>unfold Has at hd;subst hd;cases rx;exact Æ0 kitx_none I.kIn È8 e (λz=>nomatch z) fin
 |bl b=>unfold Has at hd;subst hd;cases rx;exact Æ0 kitx_bool I.kIn È8 e (λz=>nomatch z) fin
 |int i=>unfold Has at hd;subst hd;obtain⟨t,rfl⟩:=rx;exact Æ0 kitx_int I.kIn È8 e (λz=>nomatch z) fin
 |str y=>unfold Has at hd;subst hd;obtain⟨t,rfl⟩:=rx;exact Æ0 kitx_str I.kIn È8 e (λz=>nomatch z) fin
 |tup ds =>
  unfold Has at hd;obtain⟨a,ys,rfl,hq,_⟩:=hd;cases rx;obtain⟨its,_,⟨o,h1,h2,_⟩,_⟩:=I.tuple hq;exact Æ0 kitx_tuple I.kIn ⟨o,h1,h2⟩ e (λz=>nomatch z) fin
 |lst ds =>
  unfold Has at hd;obtain⟨a,ys,rfl,hq,_⟩:=hd;cases rx;obtain⟨its,_,pl,_⟩:=I.list hq;obtain⟨o,h1,h2,_⟩:=pl.isList;exact Æ0 kitx_list I.kIn ⟨o,h1,h2⟩ e (λz=>nomatch z) fin
 |dct =>
  unfold Has at hd;obtain⟨a,kvs,rfl,hq⟩:=hd;cases rx;obtain⟨_,_,vs,_,p⟩:=(show h50 X.prog X.w H s.heap a (.dK kvs) from I.hok a _ hq);obtain⟨o,es,ep,h1,h2,_⟩:=p;exact Æ0 kitx_dict I.kIn ⟨o,h1,h2.1⟩ e (λz=>nomatch z) fin
end
def hide(st:Æ)(H:Hp):Hp:=λb=>if b=st then none else H b
theorem e50(st:Æ)(H:Hp):a20 (hide st H) H:=λb o e=>by
 unfold hide at e;split at e
 ·cases e
 ·exact e
theorem D30{st:Æ}{H H':Hp}(e:∀ b o,b≠st->H b=some o->H' b=some o):a20 (hide st H) (hide st H'):=λb o h=>by
 unfold hide at h ⊢;by_cases q:b=st
 ·rw[if_pos q] at h;cases h
 ·rw[if_neg q] at h ⊢;exact e b o q h
theorem K60{st b:Æ}{H:Hp}{o:HO}(h:H b=some o)(n:b≠st):hide st H b=some o:=by
 unfold hide;rw[if_neg n];exact h
end L2
namespace L2
open PySem PySem.Spec PyProof.Rows
def s51(sc scX:ú)(N own:List Str)(capt:List (Str × Nat)):Bool :=
 sc.kind == .function&&sc.names.all (λy=>y.2 != .cell)&&sc.names.all (λy=>y.2 != .local || sc.names.lookup y.1 == some .local) &&
  sc.names.all (λy=>y.2 != .free || (scX.names.lookup y.1 == some .cell || scX.names.lookup y.1 == some .free))&&capt.all λp=>N[p.2]? == some p.1&&sc.names.lookup p.1 == some .free
theorem r80.of{X:Cx}{sc scX:ú}{N own:List Str}{capt:List (Str × Nat)}(e:X.env.scope=scX)(eN:X.N=N)(h:s51 sc scX N own capt=true):r80 X sc own capt:=by
 unfold s51 at h;simp only[Á] at h;obtain⟨⟨⟨⟨h1,h2⟩,h3⟩,h4⟩,h5⟩:=h;rw[Ã6] at h2 h3 h4 h5;refine⟨by simpa using h1,λy hy=>by simpa using h2 y hy,λy hy hl=>?_,λy hy hf=>?_,λp hp=>?_⟩
 ·have:=h3 y hy;rw[hl] at this;simpa using this
 ·have:=h4 y hy;rw[hf] at this;show X.env.scope.names.lookup y.1=_∨X.env.scope.names.lookup y.1=_;rw[e];simpa using this
 ·have:=h5 p hp;rw[eN];simpa using this
theorem gN{i:Nat}{v:V}{σ:St}{H:Hp}{R:St->Hp->Prop}(h:R (σ.set i (some v)) H):X60 i v σ H R:=h
theorem H51{σ:St}{H:Hp}{R:Bool->Hp->Prop}(h:R true H):F21 σ H R:=h
theorem D40{n:Nat}(h:n<=64):n<=sizeLine:=Þ h (-0)
section
variable {X:Cx}
theorem k12(K:Â)(d:D):kitAny K (.type d.ty) [.type "tuple",.type "list"]=some (isB d.ty "tuple" || isB d.ty "list"):=by
 have e1:=W01 K d "tuple" (by simp)
 have e2:=W01 K d "list" (by simp)
 unfold kitAny;rw[e1];cases isB d.ty "tuple" with
 |true=>rfl
 |false =>
  show kitAny K (.type d.ty) [.type "list"]=_;unfold kitAny;rw[e2];cases isB d.ty "list" <;> rfl
theorem s61:f50 X (.builtin "isinstance") (λxs H Q=>∃ d x a,xs=[x,.ref a]/\Has X.K H d x/\SqT X.K H a [.ty "tuple",.ty "list"]/\Q (.bl (isB d.ty "tuple" || isB d.ty "list")) H):=by
 intro pins s σ H xs us Q I r h;obtain⟨d,x,a,rfl,hd,hq,q⟩:=h;obtain⟨u,w',rfl,rx,rt⟩:=vals2 r;cases (show w'=Â8 a from rt);obtain⟨its,rv,⟨⟨cls,dd,data,sl⟩,ho,hc,n,hdt⟩,_⟩:=I.tuple hq;simp only at hc hdt;subst hc hdt;have eits:its=[.type "tuple",.type "list"]:=by
  cases rv with
  |cons p r=>cases r with
   |cons p2 r2=>cases r2;rw[show _=Â7 "tuple" from p,show _=Â7 "list" from p2]
 subst eits;have e:=k12 X.K d;have fin:∀ tk,EP X pins σ Q (.bool (isB d.ty "tuple" || isB d.ty "list")) { s with toks:=tk }:=λtk=>⟨.bl _,H,I.tok tk,rfl,q⟩;cases d with
 |non=>unfold Has at hd;subst hd;cases rx;exact Ô3 kitx_none I.kIn È8 ho e (λz=>nomatch z) fin
 |bl b=>unfold Has at hd;subst hd;cases rx;exact Ô3 kitx_bool I.kIn È8 ho e (λz=>nomatch z) fin
 |int i=>unfold Has at hd;subst hd;obtain⟨t,rfl⟩:=rx;exact Ô3 kitx_int I.kIn È8 ho e (λz=>nomatch z) fin
 |str y=>unfold Has at hd;subst hd;obtain⟨t,rfl⟩:=rx;exact Ô3 kitx_str I.kIn È8 ho e (λz=>nomatch z) fin
 |tup ds =>
  unfold Has at hd;obtain⟨b,ys,rfl,hq',_⟩:=hd;cases rx;obtain⟨_,_,⟨o,h1,h2,_⟩,_⟩:=I.tuple hq';exact Ô3 kitx_tuple I.kIn ⟨o,h1,h2⟩ ho e (λz=>nomatch z) fin
 |lst ds =>
  unfold Has at hd;obtain⟨b,ys,rfl,hq',_⟩:=hd;cases rx;obtain⟨_,_,pl,_⟩:=I.list hq';obtain⟨o,h1,h2,_⟩:=pl.isList;exact Ô3 kitx_list I.kIn ⟨o,h1,h2⟩ ho e (λz=>nomatch z) fin
 |dct =>
  unfold Has at hd;obtain⟨b,kvs,rfl,hq'⟩:=hd;cases rx;obtain⟨_,_,vs,_,p⟩:=(show h50 X.prog X.w H s.heap b (.dK kvs) from I.hok b _ hq');obtain⟨o,es,ep,h1,h2,_⟩:=p;exact Ô3 kitx_dict I.kIn ⟨o,h1,h2.1⟩ ho e (λz=>nomatch z) fin
end
open PySem PySem.Spec PyProof.Rows PySem.SeqAt
theorem K70(l b:Æ)(es:Array DictEntry)(n:Nat)(it:Array Ã)(n2:Nat)(dd dd2:Option Æ)(sl sl2:Array (Option Ã)) :
  Meets (Ä3.«dict.__ne__» ⟨[.ref l,.ref b],[]⟩) (λ_ R s=>s.heap.get? l=some { cls:=.type "dict",dict:=dd,data:=.dict es n,slots:=sl }/\s.heap.get? b=some { cls:=.type "tuple",dict:=dd2,data:=.seq it n2,slots:=sl2 }/\R (.ok (.ret .notImplemented)) s) :=
 .of_wp λprog w A R s h=>by
  obtain⟨hp,g,d,tk,os⟩:=s;obtain⟨hl,hb,h⟩:=h;have f1:=F.sub_tuple_dict
  wp_walk using Ä1 hl,Ä1 hb
  exact⟨_,rfl,h⟩
theorem K80(l b:Æ)(es:Array DictEntry)(n:Nat)(it:Array Ã)(n2:Nat)(dd dd2:Option Æ)(sl sl2:Array (Option Ã)) :
  Meets (Ä3.«tuple.__ne__» ⟨[.ref b,.ref l],[]⟩) (λ_ R s=>s.heap.get? l=some { cls:=.type "dict",dict:=dd,data:=.dict es n,slots:=sl }/\s.heap.get? b=some { cls:=.type "tuple",dict:=dd2,data:=.seq it n2,slots:=sl2 }/\R (.ok (.ret .notImplemented)) s) :=
 .of_wp λprog w A R s h=>by
  obtain⟨hp,g,d,tk,os⟩:=s;obtain⟨hl,hb,h⟩:=h;have f1:=F.sub_dict_tuple
  wp_walk using Ä1 hl,Ä1 hb
  exact⟨_,rfl,h⟩
section
variable {X:Cx}
theorem W11(hu:X.A.units + 64 < Å6):OpR X (ø .NotEq) (λx y H Q=>∃ a b kvs xs,x=.ref a/\y=.ref b/\H a=some (.dK kvs)/\SqT X.K H b xs/\Q (.bl true) H):=by
 intro pins s σ H x y v u Q I rx ry h;obtain⟨a,b,kvs,xs,rfl,rfl,ha,hb,q⟩:=h;cases rx;cases ry;obtain⟨v2,r2,⟨o2,h2,c2,n2,d2⟩,_⟩:=I.tuple hb;obtain⟨_,_,vs,_,p⟩:=(show h50 X.prog X.w H s.heap a (.dK kvs) from I.hok a _ ha);obtain⟨o1,es,n1,h1,c1,d1,_⟩:=p;have c1:=c1.1;obtain⟨cls,dd,data,sl⟩:=o1;obtain⟨cls2,dd2,data2,sl2⟩:=o2;simp only at c1 d1 c2 d2;subst c1 d1 c2 d2;have hne:a≠b:=λe=>by
  subst e;rw[h1] at h2;simp at h2
 have hu':X.A.units < cLine:=by omega
 refine rc_ne_decline_or (k:=false) ⟨_,h1,rfl⟩ ⟨_,h2,rfl⟩ (-0) F.sub_tuple_dict F.slot_dict_ne F.slot_tuple_ne_refl
  (λ_ hq=>Æ9 F.slot_dict_ne ⟨_,h1,rfl⟩ F.entry_dict_ne (F.args_dict_ne_2 _ _) (K70 a b es n1 v2.toArray n2 dd dd2 sl sl2) ⟨h1,h2,hq⟩)
  (λ_ hq=>Æ9 F.slot_tuple_ne_refl ⟨_,h2,rfl⟩ F.entry_tuple_ne (F.args_tuple_ne_2 _ _) (K80 a b es n1 v2.toArray n2 dd dd2 sl sl2) ⟨h1,h2,hq⟩)
  (λ_ hq=>wpAny_isSame_ref_other hne h1 h2 (by simp) hq) (.inr hu') ⟨.bl true,H,I,rfl,q⟩
end
end L2
namespace L2
open PySem PySem.Spec PyProof.Rows
section
variable {P:Ü}{w:ì}{A:ö}{E:Ã->Å->Prop}{s:Å}
abbrev eT1(h:æ)(l:Æ):Heap:=h.push { cls:=.type "tuple_iterator",data:=.fields #[.ref l,.int 0 0] }
abbrev eT2(h:æ)(l:Æ):Heap:=(eT1 h l).push { cls:=.type "enumerate",data:=.fields #[.none,.bool false,.ref h.objs.size,Ç2 0,.none,.none] }
theorem Y60(l:Æ)(xs:Array Ã) :
  Meets (Ä3.«enumerate.__new__» ⟨[.type "enumerate",.ref l],[]⟩) (λ_ R s=>s.heap.IsTuple l xs/\R (.ok (.ret (.ref (eT1 s.heap l).objs.size))) { s with heap:=eT2 s.heap l }) :=
 .of_wp λP w A R s h=>by
  obtain⟨hp,g,d,tk,os⟩:=s;obtain⟨hl,h⟩:=h;have hsub:=sub_enumerate;have hL1:Ñ5 (Å.heap ⟨hp,g,d,tk,os⟩) l xs:=hl
  wp_walk;refine wpAny_stack_any λq=>Ç ?_;split
  ·rename_i c _ _ _ _ _;cases (c == Â7 "enumerate") <;> (wp_walk using É8 hL1) <;> exact⟨_,rfl,h⟩
  ·wp_walk using É8 hL1
   exact⟨_,rfl,h⟩
theorem l71{l:Æ}{xs:Array Ã}{Q:Ã->Å->Prop}(hl:s.heap.IsTuple l xs)
  (h:∀ h',IsEnum h' (s.heap.objs.size + 1) s.heap.objs.size 0 .none->h'.IsTupleIter s.heap.objs.size l 0->(∀ c o,s.heap.get? c=some o->h'.get? c=some o)->Q (.ref (s.heap.objs.size + 1)) { s with heap:=h' }) :
  Ñ (Ö P w) A (call (.type "enumerate") [.ref l]) Q E s:=by
 refine callType_new F.called_enumerate (-0) (F.typeCall_enumerate_1 _) (F.newCall_enumerate_1 _) (λobj=>F.args_object_init_2 obj _) F.entry_enumerate_new (Y60 l xs) ⟨hl,?_⟩
 have n1:(eT1 s.heap l).objs.size=s.heap.objs.size + 1:=Í7 ..;have g2:(eT2 s.heap l).get? (eT1 s.heap l).objs.size=some _:=Î _ rfl;have g1:(eT2 s.heap l).get? s.heap.objs.size=some _:=Ä _ (Î _ rfl);show _/\_;rw[n1] at g2;rw[n1];exact⟨⟨_,g2,rfl⟩,h _ g2 ⟨_,g1,rfl,rfl⟩ λc o q=>Ä _ (Ä _ q)⟩
theorem s71(hh:A.handled=none){it l:Æ}{xs:Array Ã}(n:l≠it):Draws P w A it [it,l] xs.size (λi x=>xs[i]?=some x) (λi h=>h.IsTupleIter it l i/\h.IsTuple l xs) where
 live:=λi h q=>by obtain⟨⟨o,e,_⟩,_⟩:=q;exact⟨o,e⟩
 frame:=λi h h' q k=>by
  obtain⟨⟨o,e,r⟩,⟨o',e',r'⟩⟩:=q;exact⟨⟨o,k it (by simp) _ e,r⟩,⟨o',k l (by simp) _ e',r'⟩⟩
 item:=λi s Q E hi q k=>q10 q.1 q.2 (x:=xs[i]) (by simp[hi]) λh' h1 h2=>k _ h' s.toks (by simp[hi]) ⟨h1,q.2.extBut h2.extBut n⟩ h2
 done:=λs Q E q k=>l80 hh q.1 q.2 (by simp) λh' e h1 h2=>k h' e h1 h2
end
theorem P21{P:Ü}{w:ì}{A:ö}(b:Bool)(hh:A.handled=none){it l:Æ}{xs:Array Ã}(n:l≠it):Draws P w A it [it,l] xs.size (λi x=>xs[i]?=some x) (λi h=>Q70 b h it l i/\F41 b h l xs):=match b with
 |true=>Draws.list hh it l n xs|false=>s71 hh n
def Ite(b:Bool)(K:Â)(a:Æ):It :=
 ⟨λi H=>∃ xs x,SqB b K H a xs/\xs[i]?=some x,
  λi H v H'=>∃ T,v=.ref T/\H T=none/\∀ xs x,SqB b K H a xs->xs[i]?=some x->H'=upd H T (.tup [.int i,x]),
  λi H=>∃ xs,SqB b K H a xs/\xs.length=i⟩
theorem s81{P:Ü}{w:ì}{K:Â}{es:List Ï}{ek:Nat}{ep:Pos}{a e it:Æ}{b:Bool}(h1:e≠it)(h2:a≠e)(h3:a≠it) :
  Turn P w K (.Tuple es ek ep) (Ite b K a) [e,it] e (λi h=>(∃ old,IsEnum h e it i old)/\Q70 b h it a i) where
 mem:=by simp
 obj:=λi h st c hc=>by
  obtain⟨⟨old,he⟩,st⟩:=st;obtain⟨o1,g1,d1,_⟩:=st.obj;simp only[Á7,Á6,or_false] at hc;rcases hc with rfl | rfl
  ·exact⟨_,he,λv e=>by cases e⟩
  ·exact⟨_,g1,d1⟩
 keep:=λi h h' st k=>by
  obtain⟨⟨old,he⟩,st⟩:=st;obtain⟨o1,g1,_,r1⟩:=st.obj;exact⟨⟨old,k e (by simp) _ he⟩,r1 h' (k it (by simp) _ g1)⟩
 item:=by
  intro X hP hw hK hc i pins s σ H E I hf st hg;subst hP hw hK;obtain⟨xs,x,hq,hx⟩:=hg;obtain⟨v1,rv,p1,_,z1⟩:=I.F51 hq;obtain⟨u,hu,ru⟩:=rv.get hx;obtain⟨⟨old,he⟩,hi⟩:=st;have hl:i < v1.toArray.size:=by simpa using (Ú.mp hu).1
  refine wpAny_pyNext_enum_itemD (P21 (A:=X.A.in1) b (by exact I.ok.hd hc) h3) he ⟨hi,p1⟩ hl h1 (by simp[h1,h2.symm]) λy g1 tk hy ge gs gT sz kp=>⟨_,rfl,?_⟩
  have hy':v1[i]?=some y:=by simpa using hy
  rw[hu] at hy';cases hy';refine wpAny_letOwnedTupleGo_enum (s:={ s with heap:=g1,toks:=tk + 1 }) ge λg2 ge2 sb=>?_;have hT:H s.heap.objs.size=none:=I.hok.fresh (Ë _);have kall:∀ c o,c ∉ [e,it]->s.heap.get? c=some o->g2.get? c=some o:=λc o hc q=>by
   simp only[Á7,Á6,or_false,not_or] at hc;exact sb.extBut _ _ hc.1 (kp c o hc.1 hc.2 q)
  have I2:Inv X pins σ H { s with heap:=g2,toks:=tk + 1 }:=I.J80 (t':=tk + 1) hf kall;have fT:X70 X pins H s.heap.objs.size:=I.o21 (Ë _) hT;have gT2:g2.get? s.heap.objs.size=some { cls:=.type "tuple",data:=.seq #[.int i tk,u] }:=sb.extBut _ _ (λq=>À3 _ (by have:=ß he;rw[← q] at this;exact this)) gT
  have I3:Inv X pins σ (upd H s.heap.objs.size (.tup [.int i,x])) { s with heap:=g2,toks:=tk + 1 }:=I2.F11 fT I.sz (I2.hok.O81 hT (its:=[.int i tk,u]) (.cons ⟨_,rfl⟩ (.cons ru .nil)) (by show 2<=sizeLine;rw[Á4];decide) ⟨_,gT2,rfl,_,rfl⟩)
  refine⟨.ref s.heap.objs.size,_,I3,rfl,⟨_,rfl,hT,λxs' x' e1 e2=>?_⟩,⟨⟨_,ge2⟩,by obtain⟨o,q1,_,q2⟩:=gs.1.obj;exact q2 _ (sb.extBut _ _ h1.symm q1)⟩,λc hc=>?_⟩
  ·rw[z1 _ e1] at e2;rw[hx] at e2;cases e2;rfl
  ·rw[a40]
   ·exact(hf c hc).1
   ·intro q;simp only[Á7,Á6,or_false] at hc;rcases hc with hc | hc
    ·exact À3 _ (by have:=ß he;rw[← hc,q] at this;exact this)
    ·obtain⟨o,ho,_⟩:=Q70.obj hi;exact À3 _ (by have:=ß ho;rw[← hc,q] at this;exact this)
 done:=by
  intro X hP hw hK hc i pins s σ H E I hf st hg;subst hP hw hK;obtain⟨xs,hq,rfl⟩:=hg;obtain⟨v1,rv,p1,_,z1⟩:=I.F51 hq;obtain⟨⟨old,he⟩,hi⟩:=st;refine wpAny_pyNext_enum_endD (P21 (A:=X.A.in1) (xs:=v1.toArray) b (by exact I.ok.hd hc) h3) he ⟨by rw[show v1.toArray.size=xs.length by simpa using rv.length.symm];exact hi,p1⟩ λg kp=>⟨rfl,I.J80 (t':=s.toks) hf λc o hcn q=>?_⟩
  simp only[Á7,Á6,or_false,not_or] at hcn;exact kp c o hcn.2 q
 self:=λ_ _ _ _ _ st h=>by obtain⟨⟨_,he⟩,_⟩:=st;exact wpAny_pyIter_enum he h
def z02(K:Â)(ta:TA):TI:=λσ H R=>ta σ H λvs H1=>∃ b a,vs=[.ref a]/\(∃ xs,SqB b K H1 a xs)/\R (Ite b K a) H1
theorem l81{P:Ü}{w:ì}{A:ö}{E:Ã->Å->Prop}{s:Å}{b:Bool}{l:Æ}{xs:Array Ã}{Q:Ã->Å->Prop}(hl:F41 b s.heap l xs)
  (h:∀ h',IsEnum h' (s.heap.objs.size + 1) s.heap.objs.size 0 .none->Q70 b h' s.heap.objs.size l 0->(∀ c o,s.heap.get? c=some o->h'.get? c=some o)->Q (.ref (s.heap.objs.size + 1)) { s with heap:=h' }) :
  Ñ (Ö P w) A (call (.type "enumerate") [.ref l]) Q E s:=match b,hl,h with
 |true,hl,h=>call_enumerate_list hl λh' a b _ c=>h h' a b c|false,hl,h=>l71 hl h
theorem s91:è "enumerate"=some (.type "enumerate"):=by decide +kernel
theorem W21{X:Cx}{a:Ï}{es:List Ï}{ek:Nat}{ep:Pos}{ta:TA}{p pos:Pos}(hg:Gl X "enumerate")(hm:X.mg "enumerate"=none)(ha:PA X [a] ta)(hs:ó [a] X.env=[(false,eval a X.env)]:=by rfl) :
  PI X (.Tuple es ek ep) (.Call (.Name "enumerate" p) [a] [] pos) (z02 X.K ta):=by
 intro pins s σ H R I h;refine Call_ (u30 I hg hm s91 (À0 (thn (ha pos pins s σ H _ I h) λus s1 ⟨vs,H1,I1,r1,q1⟩=>?_) (by rw[hs];rfl) (by rfl)))
 obtain⟨b,l1,e,⟨xs,hq1⟩,q⟩:=q1;subst e;obtain⟨u,rfl,r⟩:=vals1 r1;cases r;obtain⟨v1,rv1,p1,a1,_⟩:=I1.F51 hq1;refine l81 p1 λh' he h1 kp=>wpAny_pyIter_enum (s:={ s1 with heap:=h' }) he ?_;refine⟨_,[s1.heap.objs.size + 1,s1.heap.objs.size],_,_,H1,rfl,I1.kept (t':=s1.toks) kp,s81 (Nat.succ_ne_self _) (å (Ë5 a1)) (å a1),⟨⟨_,he⟩,h1⟩,λc hc=>?_,q⟩;have hc':s1.heap.objs.size<=c:=by
  simp only[Á7,Á6,or_false] at hc;rcases hc with rfl | rfl
  ·exact È0 _ 1
  ·exact Ë _
 exact I1.o21 hc' (I1.hok.fresh hc')
end L2
namespace HT
open PySem PySem.W PyProof.Rows
set_option maxRecDepth 100000
section
variable {P:Ü}{w:ì}{A:ö}{E:Ã->Å->Prop}{s:Å}
theorem K90{r:Æ}{a b c:Int}{t u v:Tok}{n:Nat}{Q:List Ã->Å->Prop}(hh:A.handled=none)(hr:Ó9 s.heap r a b c t u v)(hs:Ð3 a b c=true)(hn:Â5 a b c=n)(hl:n<=2 ^ 24)
  (hQ:∀ (h':æ) (tk:Nat) (acc:Array Ã),(∀ b o,s.heap.get? b=some o->h'.get? b=some o)->s.heap.objs.size<=h'.objs.size->ItemsOf (λi v=>∃ t,v=.int (a + i * c) t) acc n->Q acc.toList { s with heap:=h',toks:=tk }):Ñ (Ö P w) A (collect (.ref r)) Q E s:=by
 unfold collect;refine À (wpAny_runValue (É5 PySem.F.entry_proto_collect ?_));rw[Ò8 PySem.F.plain_proto_collect _];show Ñ _ A.in1 (newList [] >>= λl=>again (.builtin "list.__iadd__" ⟨[l,.ref r],[]⟩)) _ _ s;refine À (ò (Ç ⟨plainId_quiet Û0 _,É5 PySem.F.entry_list_iadd ?_⟩));rw[Ò8 Û0 _];show Ñ _ A.in1 (Ê7 (.ref s.heap.objs.size) (.ref r) (.ref s.heap.objs.size)) _ _ { s with heap:=s.heap.push (Â9 "list" #[] 0) };have hS:(s.heap.push (Â9 "list" #[] 0)).get? s.heap.objs.size=some { cls:=.type "list",data:=.seq #[] 0 }:=Î _ rfl;refine Â4 (wpAny_extend_range (A:=A) (s:={ s with heap:=s.heap.push (Â9 "list" #[] 0) }) (R:=λx s'=>x=.ok (.ret (.ref s.heap.objs.size))/\∃ h' tk acc c',s'={ s with heap:=h',toks:=tk }/\(∀ b o,s.heap.get? b=some o->h'.get? b=some o)/\h'.get? s.heap.objs.size=some { cls:=.type "list",dict:=none,data:=.seq acc c',slots:=#[] }/\ItemsOf (λi v=>∃ t,v=.int (a + i * c) t) acc n) hh (Ä _ hr) hs hn hl _ (.ref s.heap.objs.size) 0 hS λh' tk acc c' hk hS' hi=>⟨rfl,h',tk,acc,c',rfl,λb o e=>hk b o (å (ß e)) (Ä _ e),hS',hi⟩) (λfin s' h=>?_) λe s' h=>?_
 ·have go:∀ s',(∃ h' tk acc c',s'={ s with heap:=h',toks:=tk }/\(∀ b o,s.heap.get? b=some o->h'.get? b=some o)/\h'.get? s.heap.objs.size=some { cls:=.type "list",dict:=none,data:=.seq acc c',slots:=#[] }/\ItemsOf (λi v=>∃ t,v=.int (a + i * c) t) acc n)->Ñ (Ö P w) A (match Â8 s.heap.objs.size with
   |Â8 a=>do
    match (← load a).data with
     |Data.seq xs _=>pure xs.toList|_=>unsupported "internal:collect"
   |_=>unsupported "internal:collect") Q E s':=λs' ⟨h',tk,acc,c',e,hk,hS',hi⟩=>by
   subst e;show Ñ _ A (load s.heap.objs.size >>= _) _ _ _;exact À (wpAny_load hS' (Ç (hQ h' tk acc hk (Í2 (ß hS')) hi)))
  cases fin with
  |done f =>
   obtain⟨e,h⟩:=h;cases e;exact go _ h
  |again c'=>exact⟨h.1,Ë0 h.2 λx s'' hx=>by obtain⟨rfl,hx⟩:=hx;exact go _ hx⟩
 ·exact absurd h.1 (by simp)
open AutoSeq1 (wpAny_loadPart')
theorem D50{r:Æ}{a b c:Int}{t u v:Tok}{n:Nat}{Q:Ã->Å->Prop}(hh:A.handled=none)(hr:Ó9 s.heap r a b c t u v)(hs:Ð3 a b c=true)(hn:Â5 a b c=n)(hl:n<=200000)
  (hQ:∀ (h':æ) (tk:Nat) (acc:Array Ã),(∀ b o,s.heap.get? b=some o->h'.get? b=some o)->s.heap.objs.size<=h'.objs.size->ItemsOf (λi v=>∃ t,v=.int (a + i * c) t) acc n->Q (.ref h'.objs.size) { s with heap:=h'.push { cls:=.type "tuple",data:=.seq acc },toks:=tk }) :
  Ñ2 (Ö P w) A (.call (.builtin "tuple.__new__") ⟨[.type "tuple",.ref r],[]⟩) (wants Q E) s:=by
 refine codeAny_of_tree ?_;show Ñ _ A.in1 (do Û8 "tuple.__new__" ⟨[.type "tuple",.ref r],[]⟩;again (.builtin "tuple.__new__" ⟨[.type "tuple",.ref r],[]⟩)) _ _ s;refine À (wpAny_of_eq (PySem.F.newCall_tuple_1 _) (Ç ⟨plainId_quiet Ú9 _,É5 PySem.F.entry_tuple_new ?_⟩));rw[Ò8 Ú9 _];have k1:=sub_tuple_self;have k2:=init_tuple_lookup;have k3:=madeHere_tuple;have k4:s.TypeIs (.ref r) "range":=⟨_,hr,rfl⟩
 wp_walk using Ê9 k4,K90 (n:=n) (show A.in1.handled=none from hh) hr hs hn ∅
 intro h' tk acc hk hz hi;show Ñ _ _ (Å4 acc.toList.toArray >>= λv=>ret v) _ _ _;unfold Å4;rw[Î4];refine À (ò (Ç (hQ h' tk acc hk hz hi)) (by show acc.size<=_;rw[hi.1,Á4];omega))
theorem tuple_range{r:Æ}{a b c:Int}{t u v:Tok}{n:Nat}{Q:Ã->Å->Prop}(hh:A.handled=none)(hr:Ó9 s.heap r a b c t u v)(hs:Ð3 a b c=true)(hn:Â5 a b c=n)(hl:n<=200000)
  (hQ:∀ (h':æ) (tk:Nat) (acc:Array Ã),(∀ b o,s.heap.get? b=some o->h'.get? b=some o)->s.heap.objs.size<=h'.objs.size->ItemsOf (λi v=>∃ t,v=.int (a + i * c) t) acc n->Q (.ref h'.objs.size) { s with heap:=h'.push { cls:=.type "tuple",data:=.seq acc },toks:=tk }):Ñ (Ö P w) A (call (.type "tuple") [.ref r]) Q E s:=by
 refine callType_codes (Q₁:=λobj s₁=>s₁.TypeIs obj "tuple"/\Q obj s₁) Ò0 (PySem.F.typeCall_tuple_1 _) PySem.F.entry_object_init (D50 hh hr hs hn hl λh' tk acc hk hz hi=>⟨⟨_,Î _ rfl,rfl⟩,hQ h' tk acc hk hz hi⟩) λobj s₁ h₁=>?_;exact⟨h₁.1,PySem.F.args_object_init_2 obj _,object_init_meets Ò0.init.lookup Ò0.made (-0) P w A.in1 _ s₁ ⟨h₁.1,rfl,h₁.2⟩⟩
end
end HT
namespace L2
open PySem PySem.Spec PyProof.Rows
theorem h50.there(x:h50 P w H h a o):∃ u,h.get? a=some u:=by
 cases o with
 |lst xs=>obtain⟨_,_,_,_,e⟩:=x;exact⟨_,e⟩
 |tup xs=>obtain⟨_,_,_,o,e,_⟩:=x;exact⟨_,e⟩
 |dK kvs=>obtain⟨_,_,_,_,o,_,_,e,_⟩:=x;exact⟨_,e⟩
 |dT kvs=>obtain⟨_,_,_,_,o,_,_,e,_⟩:=x;exact⟨_,e⟩
 |set S n=>obtain⟨o,_,_,_,e,_⟩:=x;exact⟨_,e⟩
 |ins C dx fs=>obtain⟨_,_,_,e,_⟩:=x;exact⟨_,e⟩
 |own y=>obtain⟨_,e⟩:=x;exact⟨_,e⟩
 |xd fs=>obtain⟨_,⟨_,_,_,e,_⟩,_⟩:=x;exact⟨_,e⟩
 |rng lo hi=>obtain⟨_,_,_,e⟩:=x;exact⟨_,e⟩
 |frz ob u=>obtain⟨e,_⟩:=x;exact⟨_,e⟩
 |tbl ps=>exact⟨_,(show h.get? a=some _ from x)⟩|met f y=>exact⟨_,(show h.get? a=some _ from x)⟩|ext φ=>obtain⟨_,⟨_,e⟩,_⟩:=x;exact⟨_,e⟩
def InB(B:æ)(fs:List Æ)(H':Hp)(h h':æ):Prop:=∀ b u,h'.get? b=some u->b ∉ fs->((∃ o,h.get? b=some o)∨H' b≠none)->B.get? b=some u
def CX1(P:Ü)(w:ì):CXT:=λouter H s E e s'=>∃ (a:Æ) (cls a0:Ã) (H':Hp) (B:æ),e=.ref a/\s'.os=s.os/\Ñ6 s'.gens/\Un (frs outer) [] H H' s.heap s'.heap/\HOk P w H' s'.heap /\
 æ.FlyingW B outer a cls a0 s'.heap/\H' a=none/\InB B (frs outer) H' s.heap s'.heap/\E cls (some a) H'
section
variable {X:Cx}{pins:List (Æ × Obj)}{σ:St}{H H':Hp}{s s':Å}{B h'':æ}{a:Æ}{cls a0:Ã}{E:XK}
theorem Y70(hS:X.stack=X.env::X.outer)(hx:X.ex=[])(hf:X.env.frame=some X.env.locals)(I:Inv X pins σ H s)(os:s'.os=s.os)(bare:Ñ6 s'.gens)(un:Un (frs X.stack) [] H H' s.heap s'.heap)(hok:HOk X.prog X.w H' s'.heap)
  (bB:InB B (frs X.stack) H' s.heap s'.heap) (na:H' a=none) (fl:æ.FlyingW B X.outer a cls a0 h'') (sm:s'.heap.UpToSlots h'') (he:E cls (some a) H'):CX1 X.prog X.w X.outer X.H₀ X.s₀ E (.ref a) { s' with heap:=h'' }:=by
 have hfs:frs X.stack=X.env.locals::frs X.outer:=by rw[hS];unfold frs;rw[À1,hf]
 have U1:=I.base;rw[hx] at U1;have U:Un (frs X.stack) [] X.H₀ H' X.s₀.heap s'.heap:=(U1.mono (λb hb=>by rw[hfs];exact É _ hb) λb hb=>hb).trans un
 have nL:∀ b o,X.s₀.heap.get? b=some o->b ∉ frs X.outer->b ∉ frs X.stack:=λb o e hn hm=>by
  rw[hfs] at hm;rcases ô.mp hm with z | z
  ·exact absurd (ß e) (by rw[z];exact Nat.not_lt.mpr I.ok.above)
  ·exact hn z
 have frN:∀ b∈frs X.stack,H' b=none:=λb hb=>by
  obtain⟨_,o,ho,_⟩:=I.stack.mem hb;exact un.free b o ho (I.x10 b hb) (by simp)
 have old:∀ b o,X.s₀.heap.get? b=some o->b ∉ frs X.outer->∃ u,s'.heap.get? b=some u/\B.get? b=some u:=λb o e hn=>by
  obtain⟨o1,e1⟩:=U1.there b o e (by simp)
  obtain⟨o2,e2⟩:=un.there b o1 e1 (by simp)
  exact⟨o2,e2,bB b o2 e2 (nL b o e hn) (.inl ⟨o1,e1⟩)⟩
 have trk:∀ b,H' b≠none->∃ u,s'.heap.get? b=some u/\B.get? b=some u:=λb hb=>by
  obtain⟨o,e⟩:=Ù7.mp hb;obtain⟨u,eu⟩:=(hok b o e).there;exact⟨u,eu,bB b u eu (λhm=>by rw[frN b hm] at e;cases e) (.inr hb)⟩
 refine⟨a,cls,a0,H',B,rfl,os.trans I.os,bare,⟨λb o e n hb _=>?_,λb o e n hb _=>?_,λb o e n hb=>U.free b o e n hb,λb o e _=>?_,U.tups,U.frzs,U.tbls⟩,λc o e=>?_,fl,na,λb u e hn hor=>?_,he⟩
 ·obtain⟨u,e1,e2⟩:=old b o e hb;have e3:=U.keep b o e n (nL b o e hb) (by simp)
  rw[e1] at e3;cases e3;exact fl.1 b _ e2
 ·obtain⟨sl,e1⟩:=U.slot b o e n (by rw[hfs];exact É _ hb) (by simp)
  obtain⟨_,o',ho',hd⟩:=I.ok.k51.mem hb;rw[e] at ho';cases ho';obtain⟨sl',e2⟩:=sm b _ e1 hd;exact⟨sl',e2⟩
 ·by_cases hb:b∈frs X.outer
  ·obtain⟨_,o',ho',_⟩:=fl.2.2.1.mem hb;exact⟨o',ho'⟩
  ·obtain⟨u,_,e2⟩:=old b o e hb;exact⟨u,fl.1 b _ e2⟩
 ·refine(hok c o e).k41 (λb u hb q=>?_) (λ_ q=>q) λ_ _ q=>q;have hbn:H' b≠none:=by
   rcases hb with rfl | hb
   ·rw[e];exact λz=>nomatch z
   ·rw[hb];exact λz=>nomatch z
  obtain⟨u',e1,e2⟩:=trk b hbn;rw[q] at e1;cases e1;exact fl.1 b _ e2
 ·have:∃ u',B.get? b=some u':=by
   rcases hor with ⟨o,ho⟩ | hor
   ·obtain⟨u',_,e2⟩:=old b o ho hn;exact⟨u',e2⟩
   ·obtain⟨u',_,e2⟩:=trk b hor;exact⟨u',e2⟩
  obtain⟨u',e2⟩:=this;have e3:=fl.1 b _ e2;rw[e] at e3;cases e3;exact e2
end
section
variable {P:Ü}{w:ì}{K:Â}{mg:Str->Option Ã}{base:æ}{N:List Str}{qual:Str}{scope:ú}{f:Æ}{cd:Ã}{A:ö}{outer:List Env}{s₀:Å}{H₀:Hp}{E:XK}
theorem t01(I:Inv (G20 (CX1 P w) P w K mg base N qual scope f cd A outer s₀ H₀ E) pins σ H s)(hx:æ.MadeExcOf s.heap h' e cls vs)(he:E cls (some e) H) :
  (G20 (CX1 P w) P w K mg base N qual scope f cd A outer s₀ H₀ E).xe (.ref e) { s with heap:=h' }:=by
 have hin:∀ env∈(G20 (CX1 P w) P w K mg base N qual scope f cd A outer s₀ H₀ E).stack,∀ a,env.frame=some a->a∈frs (G20 (CX1 P w) P w K mg base N qual scope f cd A outer s₀ H₀ E).stack:=λenv he a ha=>Ô8.mpr ⟨env,he,ha⟩;have kB:(hideAll s.heap (frs (G20 (CX1 P w) P w K mg base N qual scope f cd A outer s₀ H₀ E).stack)).StaysIn s.heap:=λb o q=>of_hideAll _ q;show Ñ _ _ (leaving _ _) _ _ _;refine wpAny_leaves_madeW (base:=hideAll s.heap (frs (G20 (CX1 P w) P w K mg base N qual scope f cd A outer s₀ H₀ E).stack)) (h:=s.heap) I.ok.frames rfl kB (PySem.W.funFrames_hide I.stack hin) hx λh'' t fl _ _ sm=>?_;have na:H e=none:=by
  cases z:H e with
  |none=>rfl|some o=>obtain⟨u,eu⟩:=(I.hok e o z).there;rw[hx.new] at eu;cases eu
 refine Y70 (X:=G20 (CX1 P w) P w K mg base N qual scope f cd A outer s₀ H₀ E) (s':={ s with heap:=h' }) rfl rfl rfl I rfl I.bare (Un.kept hx.keeps) (I.hok.kept hx.keeps) (λb u q hn hor=>?_) na fl sm he;have:∃ o,s.heap.get? b=some o:=by
  rcases hor with hor | hor
  ·exact hor
  ·obtain⟨o,z⟩:=Ù7.mp hor;exact(I.hok b o z).there
 obtain⟨o,ho⟩:=this;have:=hx.keeps b o ho;have q':h'.get? b=some u:=q;rw[this] at q';cases q';exact hideAll_get _ ho hn
theorem z12:Passes (CX1 P w) (G20 (CX1 P w) P w K mg base N qual scope f cd A outer s₀ H₀ E) E:=by
 intro pins σ H s e s' I h;obtain⟨a,cls,a0,H',B,rfl,os,bare,un,hok,fl,na,bB,he⟩:=h;show Ñ _ _ (leaving _ _) _ _ _;refine wpAny_leaves_onW I.ok.frames rfl fl λh'' fl' sm=>?_;exact Y70 (X:=G20 (CX1 P w) P w K mg base N qual scope f cd A outer s₀ H₀ E) (s':=s') rfl rfl rfl I os bare un hok bB na fl' sm he
end
theorem W31{K:Â}{h:æ}{C:Æ}{bmB:List Ã}{newId:String}(KX:K.In h)(hq:Ê6 K C bmB newId=true) :
  ∃ bm N nm q bs hdct sn sub ab col dd k0 k1 k2 k3 k5 mN,h.get? C=some (excClassObj nm q C N bs bm hdct sn sub ab col dd k0 k1 k2 k3 k5 newId)/\h.Ns N mN/\mN "__init__"=none/\OwnTail h bmB bm:=by
 unfold Ê6 at hq;split at hq
 case h_2=>cases hq
 case h_1 dd cd sl ho =>
  split at hq
  case h_2=>cases hq
  case h_1 C' bm k0 k1 k2 k3 n k5 hm hs =>
   simp only[Á,beq_iff_eq,ð] at hq;obtain⟨⟨⟨⟨⟨z1,z2⟩,hdel⟩,ht⟩,hok⟩,hni⟩:=hq;subst z1 z2;cases cd with
   |mk nm bs mro ns qn hd sn sub ab col del =>
    dsimp only at hm hdel hok hni;subst hm hdel;have esl:sl=#[k0,k1,k2,k3,some (.builtin n),k5]:=by cases sl with | mk l=>simp only at hs;rw[hs]
    subst esl;refine⟨bm,ns,nm,qn,bs,hd,sn,sub,ab,col,dd,k0,k1,k2,k3,k5,h.nsMap ns,KX _ _ ho,?_,PySem.W.nsMap_none_of_in KX hok hni,PySem.W.tail_of_in KX ht⟩;exact .of_isNs (PySem.W.isNs_of_in KX hok)
def L00(X:Cx)(E:XK):Prop:=∀ (pins:List (Æ × Obj)) (σ:St) (H:Hp) (s:Å) (h':æ) (e:Æ) (cls:Ã) (vs:List Ã),Inv X pins σ H s->æ.MadeExcOf s.heap h' e cls vs->E cls (some e) H->X.xe (.ref e) { s with heap:=h' }
theorem t11{P:Ü}{w:ì}{K:Â}{mg:Str->Option Ã}{base:æ}{N:List Str}{qual:Str}{scope:ú}{f:Æ}{cd:Ã}{A:ö}{outer:List Env}{s₀:Å}{H₀:Hp}{E:XK} :
  L00 (G20 (CX1 P w) P w K mg base N qual scope f cd A outer s₀ H₀ E) E:=λ_ _ _ _ _ _ _ _ I hx he=>t01 I hx he
def k22(E:XK)(C:Æ)(t:TA):TS:=λ_ σ H=>t σ H λvs H1=>vs.length<=sizeLine/\∀ e,H1 e=none->E (.ref C) (some e) H1
section
variable {X:Cx}{x:Str}{C:Æ}{E:XK}{e₀:Ï}{rest:List Ï}{t:TA}{np cpos pos:Pos}
theorem H61(hE:L00 X E)(hc:X.calm=true)(hg:Gl X x)(hm:X.mg x=some (.ref C))(hq:Ê6 X.K C [.type "ValueError",.type "Exception",.type "BaseException",.type "object"] "ValueError.__new__"=true)(ha:PA X (e₀::rest) t)
  (hdb:(x == ("__debug__":Str))=false:=by decide) (he:ó (e₀::rest) X.env=(false,eval e₀ X.env)::ó rest X.env:=by rfl) (hpl:(Ñ9 cpos (ó rest X.env)).any (·.1)=false:=by rfl) :
  PS X (.Raise (some (.Call (.Name x np) (e₀::rest) [] cpos)) none pos) (k22 E C t):=by
 intro pins s σ H D I h;obtain⟨bm,N,nm,q,bs,hdct,sn,sub,ab,col,dd,k0,k1,k2,k3,k5,mN,hC,hN,hni,T⟩:=W31 I.ok.mod.kin hq;refine wpAny_Raise_call_subT (C:=C) (nm:=nm) (q:=q) (N:=N) (bs:=bs) (bm:=bm) (hdct:=hdct) (sn:=sn) (sub:=sub) (ab:=ab) (col:=col) (dd:=dd) (k0:=k0) (k1:=k1) (k2:=k2) (k3:=k3) (k5:=k5)
  Ù0 (mN:=mN) (T.hasType Ù0.hasBase) (I.ok.hd hc) (by rw[he];exact hpl) hni (I70 I hg hm ⟨rfl,?_⟩ hdb)
 have k:=ha cpos pins s σ H _ I h;rw[he] at k ⊢;refine Ý7 (thn k λus s2 ⟨vs,H2,I2,r,z,q⟩=>⟨rfl,by show us.length<=_;rw[← r.length];exact z,I2.bk _ _ hC,hN.keeps I2.bk,T.keeps I2.bk,λh' e hx=>?_⟩)
 refine hE pins σ H2 s2 h' e _ us I2 hx (q e ?_);cases z:H2 e with
 |none=>rfl|some o=>obtain⟨u,eu⟩:=(I2.hok e o z).there;rw[hx.new] at eu;cases eu
end
open PySem PySem.Spec PyProof.Rows PySem.W PySem.Builtin PySem.Builtin.ObjectAttr PySem.Builtin.Getset_descriptor
section
variable {prog:Ü}{w:ì}{A:ö}{E:Ã->Å->Prop}{K:Â}{h:æ}{gg:Array GenState}{d:Drawn}{t:Nat}{os:OsState}{x D:Æ}{ox:Obj}
structure i40(K:PySem.W.Frag)(D:Addr):Prop where
 ga:findIn K (.ref D) "__getattribute__"=some (some (.builtin "BaseException.__getattribute__"))
 gh:findIn K (.ref D) "__getattr__"=some none
 mb:mroIn K D (.type "BaseException")=some true
 mo:mroIn K D (.type "object")=some true
 fc:findIn K (.ref D) "__class__"=some (some (.builtin "object.__class__"))
 fg:specialIn K (.builtin "object.__class__") "__get__"=some (some (.builtin "getset_descriptor.__get__"))
 ft:takesIn K (.builtin "object.__class__")=some true
def excAt(a D:Æ)(h:æ):Prop:=∃ ox,h.get? a=some ox/\ox.cls=.ref D
theorem excAt.ty{M:Model}{a D:Æ}{h:æ}(p:excAt a D h):Looks M h (typeOf (.ref a)) (.ref D):=by
 obtain⟨ox,e,c⟩:=p;rw[← c];exact(Looks.ld e).andThen .now
theorem H71{M:Model}(KX:K.In h)(L:i40 K D):Looks M h (find (.ref x) (.ref D) "__class__") (.bind (.builtin "getset_descriptor.__get__") (.builtin "object.__class__")):=by
 have l1:=looks_takesIn (M:=M) KX L.ft;have l2:Looks M h (dataDescriptor? (some (.builtin "object.__class__")) (some (.builtin "getset_descriptor.__get__"))) (some (.builtin "getset_descriptor.__get__",.builtin "object.__class__")):=l1.andThen .now;exact(looks_findIn KX L.fc).andThen ((looks_specialIn KX L.fg).andThen (l2.andThen (Looks.tag .now)))
theorem W41{R:Result->Å->Prop}{tp:Ã}(KX:K.In h)(I:excAt x D h)(hm:mroIn K D (.type "object")=some true)(hq:R (.ok (.ret (.ref D))) ⟨h,gg,d,t,os⟩) :
  Ñ2 (Ö prog w) A (.call (.builtin "getset_descriptor.__get__") ⟨[.builtin "object.__class__",.ref x,tp],[]⟩) R ⟨h,gg,d,t,os⟩:=by
 have L0:=I.ty (M:=Ö prog w);have L1:=looks_mroIn (M:=Ö prog w) KX hm
 (refine codeAny_call_builtin KF.slot_gs.plain KF.entry_gs (KF.slot_gs.check _ _ _ _ _ _ _ _ KF.type_class (KF.args_gs _ _ _) ?_);unfold Ä3.«getset_descriptor.__get__» descrGet;rw[dga_obj];refine À (Ç ?_);unfold descrGetter descrCheckInstance descrNameAndClass isInstance;simp only[KF.owner_class];repeat lk)
 (refine⟨Code.quiet_builtin _ (by decide +kernel),É5 KF.entry_class ?_⟩;unfold Ä3.«object.__class__» shownTypeOf;repeat lk)
 exact hq
theorem t21{M:Model}{nameV:Ã}{Q:Unit->Å->Prop}(KX:K.In h)(I:excAt x D h)(L:i40 K D)(hq:Q () ⟨h,gg,d,t,os⟩) :
  Ñ M A (Û8 "BaseException.__getattribute__" ⟨[.ref x,nameV],[]⟩) Q E ⟨h,gg,d,t,os⟩:=by
 have hkd:builtinKind "BaseException.__getattribute__"=some .slot:=by decide +kernel
 have hsp:splitId "BaseException.__getattribute__"=some ("BaseException","__getattribute__"):=by decide +kernel
 have L0:=I.ty (M:=M);have L1:=looks_mroIn (M:=M) KX L.mb;have ha:=F.args_bexc_ga (.ref x) nameV;simp only[Û8,hkd,hsp];unfold isInstance;refine À (À (L0.at (L1.at ?_)))
 repeat (first | assumption | wp_step)
theorem t31{tk:Tok}{Q:Fin->Å->Prop}(KX:K.In h)(I:excAt x D h)(L:i40 K D)(hq:Q (.done (.ret (.ref D))) ⟨h,gg,d,t,os⟩) :
  Ñ (Ö prog w) A (Ä3.«object.__getattribute__» ⟨[.ref x,.str "__class__" tk],[]⟩) Q E ⟨h,gg,d,t,os⟩:=by
 have L0:=I.ty (M:=Ö prog w);have L1:=H71 (M:=Ö prog w) (x:=x) KX L
 (unfold Ä3.«object.__getattribute__»);refine À (Ç (À (Ç (À (L0.at (À (L1.at ?_)))))))
 show Ñ _ _ (Ú1 [Ï1 "object.__class__"] (call (.builtin "getset_descriptor.__get__") [.builtin "object.__class__",.ref x,.ref D]) >>= _) _ _ _;refine À (Ã7 (Ø6 (W41 KX I L.mo ?_)));exact Ç hq
theorem H81{tk:Tok}{R:Result->Å->Prop}(KX:K.In h)(I:excAt x D h)(L:i40 K D)(hq:R (.ok (.ret (.ref D))) ⟨h,gg,d,t,os⟩) :
  Ñ2 (Ö prog w) A (.call (.builtin "BaseException.__getattribute__") ⟨[.ref x,.str "__class__" tk],[]⟩) R ⟨h,gg,d,t,os⟩ :=
 codeAny_call_builtin F.attr_ValueError.ga.plain F.entry_bexc_ga (t21 KX I L (t31 KX I L hq))
theorem k32{tk:Tok}{fill expr:Bool}{Q:Ã->Å->Prop}(KX:K.In h)(I:excAt x D h)(L:i40 K D)(hq:Q (.ref D) ⟨h,gg,d,t,os⟩) :
  Ñ (Ö prog w) A (getAttrBy (.ref x) (.str "__class__" tk) fill expr) Q E ⟨h,gg,d,t,os⟩:=by
 have L0:=I.ty (M:=Ö prog w);have L1:=looks_findIn (M:=Ö prog w) KX L.ga;have L2:=looks_findIn (M:=Ö prog w) KX L.gh;have f3:=F.attr_ValueError.ga.bind (.ref x);have hno:(expr&&onTheHeap (Ï1 "BaseException.__getattribute__"))=false:=by cases expr <;> rfl
 unfold getAttrBy
 (refine Ã7 (À (L0.at (À (L1.at ?_)))));
 show Ñ _ _ (getAttrByItsOwn _ _ _ _ _ _) _ _ _;unfold getAttrByItsOwn hookBefore;rw[if_pos (show onTheHeap (Â8 D)=true from rfl)];refine À (L2.at ?_);unfold callGetattribute;rw[hno,if_neg (-0)]
 unfold boundAndCalled
 (refine À (Ñ8 (Ã7 ?_)))
 repeat (any_goals (first | assumption | (with_reducible refine Ø6 (H81 KX I L ?_)) | wp_step))
theorem H91(KX:K.In s.heap)(I:excAt x D s.heap)(L:i40 K D)(hq:Q (some (.ref D)) { s with toks:=s.toks + 1 }):Ñ (Ö prog w) A (getAttr? (.ref x) "__class__") Q E s:=by
 obtain⟨h,gg,d,t,os⟩:=s;unfold getAttr? getAttrBy?;refine À (wpAny_mkText (À (Ñ8 (k32 KX I L ?_))));exact Ç hq
theorem I01(L:i40 K D)(hd:hasDictIn K D=true):KitX K (.ref x) (.ref D) (excAt x D) where
 ty:=λ_ _ _ I=>I.ty
 it:=λM h KX _=>by
  obtain⟨cdD,hcD,_⟩:=any_some hd;unfold clsIn at hcD;split at hcD
  case h_2=>cases hcD
  case h_1 ho =>
   intro A' Q' E' s' k q;unfold isType loadHead;exact À (wpAny_loadPart (k _ _ (KX _ _ ho)) (Ç q))
 ne:=λh tp dd its n sl KX htp=>by
  obtain⟨cdD,hcD,_⟩:=any_some hd;refine Bool.eq_false_iff.mpr λsame=>?_;cases Â8.inj (beq_iff_eq.mp same);unfold clsIn at hcD;split at hcD
  case h_2=>cases hcD
  case h_1 ho=>cases (KX _ _ ho).symm.trans htp
 ca:=λKX I k=>H91 KX I L k
end
def k42(H:Hp)(a D:Æ):Prop:=H a=some (.ext (excAt a D))
theorem l91{a D:Æ}{h1 h2:æ}(h:excAt a D h1)(k:∀ o,h1.get? a=some o->h2.get? a=some o):excAt a D h2:=by
 obtain⟨ox,e,c⟩:=h;exact⟨ox,k _ e,c⟩
section
variable {X:Cx}
theorem m01:f50 X (.builtin "isinstance") (λxs H Q=>∃ (a D:Æ) (c:V) (cv:Ã) (b:Bool),xs=[.ref a,c]/\((∃ C,c=.ref C/\cv=.ref C)∨∃ T,c=.ty T/\cv=.type T)/\k42 H a D/\i40 X.K D/\hasDictIn X.K D=true/\kitOne X.K (.ref D) cv=some b/\Q (.bl b) H):=by
 intro pins s σ H xs us Q I r h;obtain⟨a,D,c,cv,b,rfl,hc,hx,L,hd,e,q⟩:=h;obtain⟨u,w',rfl,rx,rt⟩:=vals2 r;cases (show u=Â8 a from rx);obtain⟨hp,_,_⟩:=(show h50 X.prog X.w H s.heap a (.ext (excAt a D)) from I.hok a _ hx);have fin:∀ tk,EP X pins σ Q (.bool b) { s with toks:=tk }:=λtk=>⟨.bl b,H,I.tok tk,rfl,q⟩;have ew:w'=cv:=by
  rcases hc with ⟨C,rfl,rfl⟩ | ⟨T,rfl,rfl⟩
  ·exact rt
  ·exact rt
 subst ew;exact kia_one (I01 L hd) I.kIn hp e (λz=>by rcases hc with ⟨C,_,rfl⟩ | ⟨T,_,rfl⟩ <;> exact nomatch z) fin
end
end L2
namespace L2
open PySem PySem.Spec PyProof.Rows
section
variable {X:Cx}{pins:List (Æ × Obj)}{σ:St}{H H':Hp}{s s':Å}{B h4:æ}
theorem P31(I:Inv X pins σ H s)(os:s'.os=s.os)(bare:Ñ6 s'.gens)(un:Un (frs X.stack) [] H H' s.heap s'.heap)(hok:HOk X.prog X.w H' s'.heap)(bB:InB B (frs X.stack) H' s.heap s'.heap)(kB:B.StaysIn h4)(sm:s'.heap.UpToSlots h4) :
  Inv X pins σ H' { s' with heap:=h4 }:=by
 have frN:∀ b∈frs X.stack,H' b=none:=λb hb=>by
  obtain⟨_,o,ho,_⟩:=I.stack.mem hb;exact un.free b o ho (I.x10 b hb) (by simp)
 have fr4:∀ b o,s.heap.get? b=some o->b∈frs X.stack->∃ sl,h4.get? b=some { o with slots:=sl }:=λb o e hb=>by
  obtain⟨sl,e1⟩:=un.slot b o e (I.x10 b hb) hb (by simp)
  obtain⟨_,o',ho',hd⟩:=I.stack.mem hb;rw[e] at ho';cases ho';obtain⟨sl',e2⟩:=sm b _ e1 hd;exact⟨sl',e2⟩
 have old:∀ b o,s.heap.get? b=some o->b ∉ frs X.stack->∃ u,s'.heap.get? b=some u/\h4.get? b=some u:=λb o e hn=>by
  obtain⟨o2,e2⟩:=un.there b o e (by simp)
  exact⟨o2,e2,kB b _ (bB b o2 e2 hn (.inl ⟨o,e⟩))⟩
 refine I.f82 (s':={ s' with heap:=h4 }) (ch:=[]) os ⟨λb o e n hb _=>?_,λb o e n hb _=>fr4 b o e hb,un.free,λb o e _=>?_,un.tups,un.frzs,un.tbls⟩ (λc o e=>?_) bare λb hb=>absurd hb (by simp)
 ·obtain⟨u,e1,e2⟩:=old b o e hb;have e3:=un.keep b o e n hb (by simp)
  rw[e1] at e3;cases e3;exact e2
 ·by_cases hb:b∈frs X.stack
  ·obtain⟨sl,e1⟩:=fr4 b o e hb;exact⟨_,e1⟩
  ·obtain⟨u,_,e2⟩:=old b o e hb;exact⟨u,e2⟩
 ·refine(hok c o e).k41 (λb u hb q=>?_) (λ_ q=>q) λ_ _ q=>q;have hbn:H' b≠none:=by
   rcases hb with rfl | hb
   ·rw[e];exact λz=>nomatch z
   ·rw[hb];exact λz=>nomatch z
  exact kB b _ (bB b u q (λhm=>hbn (frN b hm)) (.inr hbn))
theorem Inv.t41{h':æ}{m m':Str->Option Ã}{t':Nat}(I:Inv X pins σ H s)(hl:∀ (i:Nat) (x:Str) (v:V),X.N[i]?=some x->σ[i]?=some (some v)->Vis X.env.scope x->∃ u,RelV v u/\Look X.env s.heap m x u)
  (hn':h'.Ns X.env.locals m') (hs:Ö4 X.env.locals s.heap h') (hm:∀ (i:Nat) (x:Str),X.N[i]?=some x->m' x=m x):Inv X pins σ H { s with heap:=h',toks:=t' }:=by
 have oth:∀ b o,b≠X.env.locals->s.heap.get? b=some o->h'.get? b=some o:=λb o hb e=>(hs.2 b hb).trans e;have neL:∀ b o,X.s₀.heap.get? b=some o->b≠X.env.locals:=λb o e=>å (Ù (ß e) I.ok.above);have cel:∀ x c v,X.env.cells.lookup x=some c->s.heap.IsCell c v->h'.IsCell c v:=λx c v e ⟨o,ho,hd⟩=>⟨o,oth c o (I.cne x c e) ho,hd⟩;refine⟨I.ok,I.os,I.bare,⟨λb o e n hb hx=>oth b o (neL b o e) (I.base.keep b o e n hb hx),λb o e n hb hx=>?_,I.base.free,λb o e hx=>?_,I.base.tups,I.base.frzs,I.base.tbls⟩,⟨m',hn',λi x v e1 e2 e3=>?_⟩,λx c e=>?_,I.free,I.freeC,λp hp=>?_,λc o e=>?_,I.len⟩
 ·obtain⟨sl,e1⟩:=I.base.slot b o e n hb hx;exact⟨sl,oth b _ (neL b o e) e1⟩
 ·obtain⟨o',e1⟩:=I.base.there b o e hx;exact⟨o',oth b _ (neL b o e) e1⟩
 ·obtain⟨u,r,l⟩:=hl i x v e1 e2 e3;refine⟨u,r,?_⟩;rcases l with ⟨k,z⟩ | ⟨k,c,ec,z⟩
  ·exact .inl ⟨k,(hm i x e1).trans z⟩
  ·exact .inr ⟨k,c,ec,cel x c _ ec z⟩
 ·obtain⟨v,z⟩:=I.cell x c e;exact⟨v,cel x c v e z⟩
 ·obtain⟨e,n,ne,nf,d⟩:=I.pin p hp;exact⟨oth _ _ ne e,n,ne,nf,d⟩
 ·refine(I.hok c o e).k41 (λb u hb q=>oth b u (λz=>?_) q) (λ_ q=>q) λ_ _ q=>q;rcases hb with rfl | hb
  ·rw[z,I.free] at e;cases e
  ·rw[z,I.free] at hb;cases hb
theorem Inv.k52{T:Æ}{o:HO}(I:Inv X pins σ H s)(nT:H T=none)(n0:X.s₀.heap.get? T=none)(hL:T≠X.env.locals)(hc:∀ x c,X.env.cells.lookup x=some c->c≠T)(hp:∀ p∈X.pn++pins,p.1≠T)(new:h50 X.prog X.w (upd H T o) s.heap T o) :
  Inv X pins σ (upd H T o) s:=by
 have u:=I.base;refine⟨I.ok,I.os,I.bare,⟨u.keep,u.slot,λb ob e n hx=>?_,u.there,λb xs e=>?_,λb ob xs e=>?_,λb ps e=>?_⟩,I.loc,I.cell,?_,λx c e=>?_,λp hpp=>?_,λc v e=>?_,I.len⟩
 ·rw[a40 (λz=>by rw[z,n0] at e;cases e)];exact u.free b ob e n hx
 ·have z:=u.tups b xs e;rw[a40 (a80 z nT)];exact z
 ·have z:=u.frzs b ob xs e;rw[a40 (a80 z nT)];exact z
 ·obtain⟨more,z⟩:=u.tbls b ps e;exact⟨more,by rw[a40 (a80 z nT)];exact z⟩
 ·rw[a40 hL.symm];exact I.free
 ·rw[a40 (hc x c e)];exact I.freeC x c e
 ·obtain⟨e,n,r⟩:=I.pin p hpp;exact⟨e,by rw[a40 (hp p hpp)];exact n,r⟩
 ·by_cases hcT:c=T
  ·subst hcT;rw[a90] at e;cases e;exact new
  ·rw[a40 hcT] at e;exact(I.hok c v e).k41 (λ_ _ _ q=>q) (λb q=>by rw[a40 (a80 q nT)];exact q) λb xs q=>by rw[a40 (a80 q nT)];exact q
end
structure m21(P:Program)(w:World)(K:PySem.W.Frag)(mg:Str->Option Value)(base:Heap)(CX:CXT)(k:Nat)(f:Addr)(fd:FuncData)(ps:List Str)(sp:Shared->Sp):Prop where
 len:∀ s vs H Q E,sp s vs H Q E->vs.length=ps.length
 run:∀ (A:Around) (outer:List Env) (s:Shared) (H:Hp) (args:Args) (us:List Value) (vs:List V) (Q:VK) (E:XK),z30 k A->T31 P w K mg base A outer s H->BindsTo s fd args (ps.zip us)->Vals vs us->sp s vs H Q E ->
  codeAny (model P w) A (.call (.ref f) args) (CR CX outer P w H s Q E) s
theorem k62{CX:CXT}{P:Ü}{w:ì}{K:Â}{mg:Str->Option Ã}{base:æ}{k:Nat}{f:Æ}{name qual:Str}{params:Ì5}{body:List Ä4}{scope:ú}{dV kV doc pm cdv ct oc:Ã}{an od:Option Æ}
  {osl:Array (Option Ã)}{N ps:List Str}{sp:Å->Sp} (lk:K.lookup f=some ⟨oc,od,.func (fnOf name qual params body scope dV kV doc pm an cdv ct),osl⟩) (hcd:PySem.W.codeIn K cdv qual=true) (S:k00 N ps scope)
  (len:∀ s vs H Q E,sp s vs H Q E->vs.length=ps.length)
  (hbody:∀ (A:ö) (outer:List Env) (s:Å) (H:Hp) (vs:List V) (Q:VK) (E:XK),z30 k (A.deeper (Í9 qual scope s.heap.objs.size f cdv))->sp s vs H Q E ->
   ∃ t,PSs (G20 CX P w K mg base N qual scope f cdv A outer s H E) body t/\t { nx:=λ_ H'=>Q .non H',rt:=Q } (start N vs) H) :
  m21 P w K mg base CX (k + 1) f (fnOf name qual params body scope dV kV doc pm an cdv ct) ps sp:=by
 refine⟨len,λA outer s H args us vs Q E hr e0 hb r hsp=>?_⟩;have hl:=len _ _ _ _ _ hsp;have KX:K.In s.heap:=e0.mod.kin.keeps λb o e=>(e0.bs b o e).1;have lim:s.heap.NoLimit:=e0.mod.nolimit.keeps λb o e=>(e0.bs b o e).1;have hkind:∀ y∈ps.zip us,scope.names.lookup y.1=some .local∨(scope.names.lookup y.1=some .cell/\((cellsFrom (s.heap.objs.size + 1) scope.names []).lookup y.1).isSome=true):=λ⟨n,v⟩ hy=>by
  rcases S.par n (of_mem_zip hy).1 with q | q
  ·exact .inl q
  ·exact .inr ⟨q,cellsFrom_some _ _ _ (.inl q)⟩
 refine codeAny_call_function hr.depth (KX _ _ lk) rfl S.co S.gen rfl (codeRec_of KX hcd) (hb _ _ _ _ ?_);refine Ý2 S.kind hkind λenv he s1 x=>?_;subst he;refine⟨lim.keeps x.toInCall.keep,codeAny_func ?_⟩;obtain⟨t,ht,hq⟩:=hbody A outer s H vs Q E (hr.deeper _) hsp;have I:Inv (G20 CX P w K mg base N qual scope f cdv A outer s H E) [] (start N vs) H s1:=P90 S hr.hd e0 hl r x;refine Â4 (ht [] s1 (start N vs) H _ I hq) (λfl s' hs=>?_) λe s' hs=>hs;have fin:∀ {σ':St}{H':Hp}{v:V}{u:Ã},Inv (G20 CX P w K mg base N qual scope f cdv A outer s H E) [] σ' H' s'->RelV v u->Q v H'->CE outer P w H s Q u s' :=
  λ{σ' H' v u} J rv q=>⟨v,H',J.os,J.bare,J.base,J.hok,rv,q⟩
 cases fl with
 |ret u =>
  obtain⟨v,σ',H',J,rv,q⟩:=hs;exact fin J rv q
 |next =>
  obtain⟨σ',H',J,q⟩:=hs;exact fin (v:=V.non) (u:=â) J rfl q
 |brk =>
  obtain⟨_,_,_,q⟩:=hs;exact ý q
 |cont =>
  obtain⟨_,_,_,q⟩:=hs;exact ý q
theorem Fun.okS{P:Ü}{w:ì}{K:Â}{mg:Str->Option Ã}{base:æ}{x qual:Str}{st:Ä4}{f:Æ}{fd:Ä0}{N ps:List Str}{k:Nat}{sp:Å->Sp}(F:Fun K x qual st f fd)(S:k00 N ps (b70 st))(len:∀ s vs H Q E,sp s vs H Q E->vs.length=ps.length)
  (hb:∀ (cdv:Ã) (A:ö) (outer:List Env) (s:Å) (H:Hp) (vs:List V) (Q:VK) (E:XK),z30 k (A.deeper (Í9 qual (b70 st) s.heap.objs.size f cdv))->sp s vs H Q E ->
   ∃ t,PSs (G20 CX0 P w K mg base N qual (b70 st) f cdv A outer s H E).nox (i30 st) t/\t { nx:=λ_ H'=>Q .non H',rt:=Q } (start N vs) H):m21 P w K mg base CX0 (k + 1) f fd ps sp:=by
 obtain⟨oc,od,kV,doc,pm,an,cdv,ct,osl,rfl,lk,hcd⟩:=F.ex;refine k62 lk hcd S len λA outer s H vs Q E hr hsp=>?_;obtain⟨t,h,q⟩:=hb cdv A outer s H vs Q E hr hsp;exact⟨t,h.nox,q⟩
def R10(P:Ü)(w:ì)(K:Â)(mg:Str->Option Ã)(base:æ)(N:List Str)(qual:Str)(scope:ú)(f:Æ)(cd:Ã)(cl:List (Str × Æ))(A:ö)(outer:List Env)(s:Å)(H:Hp)(E:XK):Cx where
 prog:=P
 w:=w
 K:=K
 mg:=mg
 base:=base
 A:=A.deeper (envX qual scope s.heap.objs.size f cd cl)
 N:=N
 s₀:=s
 H₀:=H
 env:=envX qual scope s.heap.objs.size f cd cl
 outer:=outer
 stack:=envX qual scope s.heap.objs.size f cd cl::outer
 ex:=[]
 calm:=true
 fn:=λ_=>false
 pn:=[]
 xe:=λe s'=>Ñ (Ö P w) (A.deeper (envX qual scope s.heap.objs.size f cd cl)) (leaving (envX qual scope s.heap.objs.size f cd cl) e) (λ_ s''=>CX1 P w outer H s E e s'') (λe' s''=>CX1 P w outer H s E e' s'') s'
section
variable {P:Ü}{w:ì}{K:Â}{mg:Str->Option Ã}{base:æ}{N:List Str}{qual:Str}{scope:ú}{f:Æ}{cd:Ã}{cl:List (Str × Æ)}{A:ö}{outer:List Env}{s₀:Å}{H₀:Hp}{E:XK}
theorem W51:Passes (CX1 P w) (R10 P w K mg base N qual scope f cd cl A outer s₀ H₀ E) E:=by
 intro pins σ H s e s' I h;obtain⟨a,cls,a0,H',B,rfl,os,bare,un,hok,fl,na,bB,he⟩:=h;show Ñ _ _ (leaving _ _) _ _ _;refine wpAny_leaves_onW I.ok.frames rfl fl λh'' fl' sm=>?_;exact Y70 (X:=R10 P w K mg base N qual scope f cd cl A outer s₀ H₀ E) (s':=s') rfl rfl rfl I os bare un hok bB na fl' sm he
structure m31(scope:Scope)(cl:List (Str × Addr))(N:List Str)(vs:List V)(H:Hp)(h:Heap):Prop where
 inj:∀ x y c,cl.lookup x=some c->cl.lookup y=some c->x=y
 has:∀ x,(scope.names.lookup x=some .cell∨scope.names.lookup x=some .free)->∃ c,cl.lookup x=some c
 cell:∀ x c,cl.lookup x=some c->∃ v,h.IsCell c v
 free:∀ x c,cl.lookup x=some c->H c=none
 val:∀ (i:Nat) (x:Str) (v:V),N[i]?=some x->vs[i]?=some v->scope.names.lookup x=some .free/\∃ c u,cl.lookup x=some c/\RelV v u/\h.IsCell c (some u)
 len:vs.length=N.length
theorem W61{vs:List V}{h₁:æ}{t:Nat}(e0:T31 P w K mg base A outer s₀ H₀)(hd:A.handled=none)(hk:scope.kind=.function)(FR:m31 scope cl N vs H₀ s₀.heap)(hns:h₁.Ns s₀.heap.objs.size λ_=>none)
  (hkp:∀ b o,s₀.heap.get? b=some o->h₁.get? b=some o) :
  Inv (R10 P w K mg base N qual scope f cd cl A outer s₀ H₀ E) [] (vs.map some) H₀ { s₀ with heap:=h₁,toks:=t }:=by
 have noA:∀ b:Æ,b ∉ (R10 P w K mg base N qual scope f cd cl A outer s₀ H₀ E).ex:=λb z=>absurd (show b∈([]:List Æ) from z) (by simp)
 have cel:∀ c v,s₀.heap.IsCell c v->h₁.IsCell c v:=λc v ⟨o,ho,hd⟩=>⟨o,hkp c o ho,hd⟩;refine⟨⟨e0.mod,hk,rfl,rfl,Ë _,FR.inj,FR.has,(λ_ _ z=>nomatch z),(λ_=>hd),Ý1 e0.frames,.inr ⟨rfl,rfl⟩,λb z=>absurd z (noA b),e0.bs,e0.bsz,λb _ _=>noA b,λb z=>absurd z (noA b),e0.k51,e0.frf⟩,
  rfl,e0.bare,Un.kept hkp,⟨_,hns,λi x v h1 h2 h3=>?_⟩,λx c h=>?_,e0.hok.fresh (Ë _),FR.free,λp hp=>absurd (show p∈([]:List (Æ × Obj)) from hp) (by simp),e0.hok.kept hkp,?_⟩
 ·have hv:vs[i]?=some v:=by
   rw[Ø] at h2;cases e:vs[i]? with
   |none=>rw[e] at h2;cases h2
   |some a=>rw[e] at h2;cases h2;rfl
  obtain⟨k,c,u,ec,r,z⟩:=FR.val i x v h1 hv;exact⟨u,r,.inr ⟨.inr k,c,ec,cel c _ z⟩⟩
 ·obtain⟨v,z⟩:=FR.cell x c h;exact⟨v,cel c v z⟩
 ·rw[È];exact FR.len
end
def recAt(c:Æ)(qual:Str):æ->Prop:=λh=>h.CodeRec (.ref c) qual
theorem H10{c:Æ}{qual:Str}{h1 h2:æ}(h:recAt c qual h1)(k:∀ o,h1.get? c=some o->h2.get? c=some o):recAt c qual h2:=by
 obtain⟨c',oc,vs,tq,e,ho,hd,hq⟩:=h;cases e;exact⟨c,oc,vs,tq,rfl,k _ ho,hd,hq⟩
section
variable {P:Ü}{w:ì}{K:Â}{mg:Str->Option Ã}{base:æ}{N:List Str}{qual:Str}{scope:ú}{f c':Æ}{cl:List (Str × Æ)}{s₀:Å}{H₀:Hp}{k:Nat}{pm ctv cls:Ã}{params:Ì5}{body:Ï}{vs:List V}
theorem m31.later{outer:List Env}{H:Hp}{s:Å}(FR:m31 scope cl N vs H₀ s₀.heap)(un:Un (frs outer) [] H₀ H s₀.heap s.heap):m31 scope cl N vs H s.heap:=by
 have cel:∀ x c v,cl.lookup x=some c->s₀.heap.IsCell c v->s.heap.IsCell c v:=λx c v e ⟨o,ho,hd⟩=>by
  obtain⟨sl,e1⟩:=un.any ho (FR.free x c e) (by simp)
  exact⟨_,e1,hd⟩
 refine⟨FR.inj,FR.has,λx c e=>?_,λx c e=>?_,λi x v h1 h2=>?_,FR.len⟩
 ·obtain⟨v,z⟩:=FR.cell x c e;exact⟨v,cel x c v e z⟩
 ·obtain⟨v,o,ho,_⟩:=FR.cell x c e;exact un.free c o ho (FR.free x c e) (by simp)
 ·obtain⟨k,c,u,ec,r,z⟩:=FR.val i x v h1 h2;exact⟨k,c,u,ec,r,cel x c _ ec z⟩
end
def Tab(H:Hp)(P:Æ)(qual:Str):Prop:=∃ ps:Array Ã,H P=some (.tbl ps)/\Û9 ps.toList/\∀ pos c,Ö0 pos ps.toList=some c->∃ c',c=.ref c'/\H c'=some (.ext (recAt c' qual))
theorem m41{line col:Int}{pos':Pos}{c c2:Ã}(tl:List Ã)(h:Û9 tl)(e:Ö0 pos' (tl++[Ç2 line,Ç2 col,c])=some c2):c2=c∨Ö0 pos' tl=some c2:=by
 fun_induction Û9 tl with
 |case1 =>
  simp only[É1,Ö0,Ç2] at e;split at e
  ·cases e;exact .inl rfl
  ·cases e
 |case2 a t b u x rest ih =>
  simp only[Ð0,Ö0] at e ⊢;split at e
  ·rename_i hc;rw[if_pos hc];exact .inr e
  ·rename_i hc;rw[if_neg hc];exact ih h e
 |case3 tl h1 h2=>exact h.elim
theorem I11(hf:∀ y∈lsc.names,y.2=.free->∃ c,env.cells.lookup y.1=some c):∃ cl,closureFor lsc env=pure cl/\(∀ x c,cl.lookup x=some c->env.cells.lookup x=some c)/\∀ y∈lsc.names,y.2=.free->∃ c,cl.lookup y.1=some c:=by
 obtain⟨cl,e,h1,_,h3⟩:=J60 env lsc.names [] hf (λx c z=>by simp at z)
 refine⟨cl,?_,h1,h3⟩;unfold closureFor
 first
  |(rw[show(forIn lsc.names ([]:List (Str × Æ)) _:Sem _)=_ from e];rfl)
  |(simp only[bind_pure];exact e)
structure L10(P:Addr)(H H':Hp):Prop where
 same:∀ b o,b≠P->H b=some o->H' b=some o
section
variable {X:Cx}{pins:List (Æ × Obj)}{σ:St}{H:Hp}{s:Å}{c P:Æ}{qual:Str}{params:Ì5}{body:Ï}{lsc:ú}{lpos:Pos}{A:ö}{Q:Ã->Å->Prop}{E:Ã->Å->Prop}
theorem I21(I:Inv X pins σ H s)(hdef:defaultsOf params X.env=([],[]))(hcode:X.env.code=.ref c)(hhd:Ä2 X.K c P=true)(TB:Tab H P qual)(hqu:X.env.qual++"<lambda>"=qual)
  (hbm:∃ bm ob,X.mg "__builtins__"=some (.ref bm)/\bm≠Ë9/\X.base.get? bm=some ob/\ob.cls=.type "module"/\ob.dict=some Ë9/\ob.data=.plain)
  (hfr:∀ y∈lsc.names,y.2=.free->∃ c,X.env.cells.lookup y.1=some c)
  (k:∀ (cl:List (Str × Æ)) (f c':Æ) (pm ctv:Ã) (h2:æ) (tk:Tok) (H2:Hp),(∀ x c,cl.lookup x=some c->X.env.cells.lookup x=some c)->(∀ y∈lsc.names,y.2=.free->∃ c,cl.lookup y.1=some c) ->
   Inv X pins σ H2 { s with heap:=h2,toks:=tk }->Tab H2 P qual->L10 P H H2->(∃ o,h2.get? f=some o/\o.data=.func (kla_fn "<lambda>" qual params body lsc cl pm (.ref c') ctv))->H2 f=none->H2 c'=some (.ext (recAt c' qual))->s.heap.objs.size<=f ->
   Q (.ref f) { s with heap:=h2,toks:=tk }):Ñ (Ö X.prog X.w) A (eval (.Lambda params body lsc lpos) X.env) Q E s:=by
 refine PySem.W.kla_eval hdef ?_;rw[hqu];obtain⟨cl,ecl,cl1,cl2⟩:=I11 hfr;obtain⟨ps,hP,ht,hall⟩:=TB;have hPt:s.heap.get? P=some (Ç0 ps):=I.hok P _ hP;have hg:=I.mod.glob.keeps I.bk;have bsN:∀ b o,X.base.get? b=some o->b≠P:=λb o e z=>by have:=(I.bs b o e).2;rw[z,hP] at this;cases this
 have hgP:Ý≠P:=by obtain⟨o,_,_,e,_⟩:=I.mod.glob;exact bsN _ o e
 obtain⟨bm,ob,b1,b2,b3,b4,b5,b6⟩:=hbm;have hbGl:bm≠mainGlobals:=λq=>by
  obtain⟨o,es,ep,e,hd,_⟩:=I.mod.glob;rw[q,e] at b3;(cases b3;rw[hd] at b6;cases b6)
 have BA:s.heap.BuiltinsAt X.mg P:=⟨bm,ob,b1,b2,hbGl,bsN _ _ b3,I.bk _ _ b3,b4,b5,b6⟩;have CH:=codeHd_of_K I.kIn hhd;cases hca:Ö0 lpos ps.toList with
 |some cv =>
  obtain⟨c',rfl,hc'⟩:=hall lpos cv hca;refine PySem.W.kla_makeFunctionHit ecl I.ok.glob hg hcode CH hPt ht hca BA λctv h' tk hk hsz=>?_;have kp:∀ b o,s.heap.get? b=some o->(h'.push { cls:=.type "function",data:=.func (kla_fn "<lambda>" qual params body lsc cl ((X.mg "__name__").getD .none) (.ref c') ctv) }).get? b=some o:=λb o e=>Ä _ (hk b o e);have nf:H h'.objs.size=none:=I.hok.fresh hsz;exact k cl h'.objs.size c' _ ctv _ tk H cl1 cl2 (I.kept (t':=tk) kp) ⟨ps,hP,ht,hall⟩ ⟨λ_ _ _ e=>e⟩ ⟨_,Î _ rfl,rfl⟩ nf hc' hsz
 |none =>
  refine PySem.W.kla_makeFunction ecl I.ok.glob hg hcode CH hPt ht hca hgP BA λc' ctv h' tk hx hge hlt hrec htb=>?_;have lP:P < s.heap.objs.size:=ß hPt;have cP:c'≠P:=Î5 (Ù lP hge);have nC:H c'=none:=I.hok.fresh hge;have kp:∀ b o,b≠P->s.heap.get? b=some o->(h'.push (kla_obj "<lambda>" qual params body lsc cl ((X.mg "__name__").getD .none) c' ctv)).get? b=some o:=λb o hb e=>Ä _ (hx b o hb e);have tb:(h'.push (kla_obj "<lambda>" qual params body lsc cl ((X.mg "__name__").getD .none) c' ctv)).get? P=some (Ç0 (ps++#[Ç2 lpos.line,Ç2 lpos.col,.ref c'])):=Ä _ htb;have rc:recAt c' qual (h'.push (kla_obj "<lambda>" qual params body lsc cl ((X.mg "__name__").getD .none) c' ctv)):=H10 hrec λo q=>Ä _ q;have h2P:upd (upd H P (.tbl (ps++#[Ç2 lpos.line,Ç2 lpos.col,.ref c']))) c' (.ext (recAt c' qual)) P=some (.tbl (ps++#[Ç2 lpos.line,Ç2 lpos.col,.ref c'])):=by rw[a40 cP.symm];exact a90
  have oth:∀ b,b≠P->b≠c'->upd (upd H P (.tbl (ps++#[Ç2 lpos.line,Ç2 lpos.col,.ref c']))) c' (.ext (recAt c' qual)) b=H b:=λb h1 h2=>by rw[a40 h2,a40 h1]
  have neC:∀ b o,H b=some o->b≠c':=λb o e=>a80 e nC;have I2:Inv X pins σ (upd (upd H P (.tbl (ps++#[Ç2 lpos.line,Ç2 lpos.col,.ref c']))) c' (.ext (recAt c' qual))) { s with heap:=h'.push (kla_obj "<lambda>" qual params body lsc cl ((X.mg "__name__").getD .none) c' ctv),toks:=tk }:=by
   have nP:∀ b,H b=none->b≠P:=λb n z=>by rw[z,hP] at n;cases n
   refine I.step (g':=s.gens) (d':=s.drawn) (ch:=[]) (λb hb=>absurd hb (by simp)) (λb o _ _ _ e n=>kp b o (nP b n) e) (λb o _ _ _ e n=>⟨o.slots,kp b o (nP b n) e⟩) (λb o _ e n=>?_) (λb o _ e=>?_) (λb xs e=>?_) (λb o u e=>?_) (λb qs e=>?_) (λm hm=>?_) (λb u e=>?_) I.bare
   ·rw[oth b (nP b n) (å (Ù (ß e) hge))];exact n
   ·by_cases hb:b=P
    ·subst hb;exact⟨_,tb⟩
    ·exact⟨o,kp b o hb e⟩
   ·rw[oth b (λz=>by rw[z,hP] at e;cases e) (neC b _ e)];exact e
   ·rw[oth b (λz=>by rw[z,hP] at e;cases e) (neC b _ e)];exact e
   ·by_cases hb:b=P
    ·subst hb;rw[hP] at e;cases e;exact⟨_,h2P⟩
    ·exact⟨#[],by rw[oth b hb (neC b _ e),e];simp⟩
   ·obtain⟨o,es,ep,ho,r⟩:=hm;exact⟨o,es,ep,kp _ o (nP _ I.free) ho,r⟩
   ·by_cases hbc:b=c'
    ·subst hbc;rw[a90] at e;cases e;obtain⟨_,oc,_,_,e1,e2,_⟩:=id rc;cases e1;exact⟨rc,⟨oc,e2⟩,λh1 h2 p kk=>H10 p kk⟩
    ·by_cases hb:b=P
     ·subst hb;rw[h2P] at e;cases e;exact tb
     ·rw[oth b hb hbc] at e;refine(I.hok b u e).k41 (λb2 u2 hb2 q=>kp b2 u2 (λz=>?_) q) (λb2 q=>?_) λb2 xs q=>?_
      ·rcases hb2 with y | y
       ·exact hb (y.symm.trans z)
       ·rw[z,hP] at y;cases y
      ·rw[oth b2 (λz=>by rw[z,hP] at q;cases q) (neC b2 _ q)];exact q
      ·rw[oth b2 (λz=>by rw[z,hP] at q;cases q) (neC b2 _ q)];exact q
  have lf:s.heap.objs.size<=h'.objs.size:=Í2 (Æ3 hge hlt);refine k cl h'.objs.size c' _ ctv _ tk _ cl1 cl2 I2 ⟨_,h2P,?_,λpos cc e=>?_⟩ ⟨λb o hb e=>by rw[oth b hb (neC b _ e)];exact e⟩ ⟨_,Î _ rfl,rfl⟩ ?_ a90 lf
  ·rw[Array.toList_append];exact TriplesOk_snoc _ _ _ _ ht
  ·rw[Array.toList_append] at e;rcases m41 _ ht e with z | z
   ·exact⟨c',z,a90⟩
   ·obtain⟨c2,rfl,hc2⟩:=hall pos cc z;exact⟨c2,rfl,by rw[oth c2 (λy=>by rw[y,hP] at hc2;cases hc2) (neC c2 _ hc2)];exact hc2⟩
  ·rw[oth _ (Î5 (Ù lP lf)) (Î5 hlt)];exact I.hok.fresh lf
end
def BMain(mg:Str->Option Ã)(h:æ):Prop:=∃ bm ob,mg "__builtins__"=some (.ref bm)/\bm≠Ë9/\h.get? bm=some ob/\ob.cls=.type "module"/\ob.dict=some Ë9/\ob.data=.plain
theorem k72{P:Ü}{w:ì}{X:Cx}:Passes (CX1 P w) X (λ_ _ _=>False):=λ_ _ _ _ _ _ _ h=>by
 obtain⟨_,_,_,_,_,_,_,_,_,_,_,_,_,e⟩:=h;exact e.elim
theorem Tab.same{H H':Hp}{P:Æ}{q:Str}(t:Tab H P q)(s:a20 H H'):Tab H' P q:=by
 obtain⟨ps,e,tr,h⟩:=t;refine⟨ps,s _ _ e,tr,λpos c hc=>?_⟩;obtain⟨c',e1,e2⟩:=h pos c hc;exact⟨c',e1,s _ _ e2⟩
def FnL(P:Ü)(w:ì)(H₀:Hp)(s₀:Å)(f:Æ)(fd:Ä0):Prop:=∀ (outer:List Env) (s:Å) (H:Hp),Un (frs outer) [] H₀ H s₀.heap s.heap->a20 H₀ H->HOk P w H s.heap->∃ c d sl,s.heap.get? f=some ⟨c,d,.func fd,sl⟩
theorem FnL.new{P:Ü}{w:ì}{H₀:Hp}{s₀:Å}{f:Æ}{fd:Ä0}(ho:∃ o,s₀.heap.get? f=some o/\o.data=.func fd)(nf:H₀ f=none):FnL P w H₀ s₀ f fd:=λouter s H un _ _=>by
 obtain⟨⟨c,d,dt,sl⟩,e,hd⟩:=ho;have hd:dt=.func fd:=hd;subst hd;obtain⟨sl,h⟩:=un.any e nf (by simp)
 exact⟨_,_,sl,h⟩
structure R20(P:Program)(w:World)(K:PySem.W.Frag)(mg:Str->Option Value)(base:Heap)(k:Nat)(f:Addr)(H₀:Hp)(s₀:Shared)(cls:Value)(RR:Hp->Prop):Prop where
 fn:∃ fd,FnL P w H₀ s₀ f fd
 run:∀ (A:Around) (outer:List Env) (s:Shared) (H:Hp),z30 k A->T31 P w K mg base A outer s H->Un (frs outer) [] H₀ H s₀.heap s.heap->a20 H₀ H ->
  codeAny (model P w) A (.call (.ref f) ⟨[],[]⟩) (CR (CX1 P w) outer P w H s (λ_ _=>False) λc _ H'=>c=cls/\RR H') s
def z22(X:Cx)(i j:Nat)(f C:Æ)(RR:Hp->Prop):TS:=λD σ H=>σ[i]?=some (some (.ref f))/\a20 X.H₀ H/\∀ a H',RR H'->H' a=none->D.nx (σ.set j (some (.ref a))) (upd H' a (.ext (excAt a C)))
section
variable {X:Cx}{k i j:Nat}{f C D:Æ}{x y z n:Str}{p1 p2 p3 p4 p5 p6 p7 p8 p9:Pos}
theorem t51(hx0:X.ex=[])(hS:X.stack=X.env::X.outer)(hf:X.env.frame=some X.env.locals)(hr:z30 k X.A)(th:R20 X.prog X.w X.K X.mg X.base k f X.H₀ X.s₀ (.ref C) RR)
  (hy:X.N[i]?=some y) (vy:Vis X.env.scope y) (dy:(y == ("__debug__":Str))=false) (cy:(y == ("__classdict__":Str))=false)
  (hg:Gl X x) (hm:X.mg x=some (.ref D)) (dx:(x == ("__debug__":Str))=false) (he:PySem.W.exmOne X.K (.ref C) (.ref D)=some true)
  (hn:X.env.kindOf n=some .local) (nN:n ∉ X.N) (dn:(n == ("__debug__":Str))=false) (hN:X.N.Nodup) (hz:X.N[j]?=some z) (lz:Loc X.env.scope z) (hfn:X.fn z=true) :
  PS X (.Try [.Expr (.Call (.Name y p1) [] [] p2) p3] [.ExceptHandler (some (.Name x p4)) (some n) [.Assign [.Name z p5] (.Name n p6) p7] p8] [] [] p9) (z22 X i j f C RR):=by
 intro pins s σ H Dd I h;obtain⟨eσ,sH,q⟩:=h;have U0:Un (frs X.stack) [] X.H₀ H X.s₀.heap s.heap:=by
  have u:=I.base;rw[hx0] at u;exact u.mono (λb hb=>by rw[hS];unfold frs;rw[À1,hf];exact É _ hb) λb hb=>hb
 obtain⟨fd,hfd⟩:=th.fn;obtain⟨c0,d0,sl,hof⟩:=hfd X.stack s H U0 sH I.hok;have hkind:(X.env.scope.kind == .class || (X.env.scope.kind == .module&&X.env.locals != X.env.globals))=false:=by rw[I.ok.kind];rfl
 refine wpAny_Try_except (Ò9 ?_);refine wpAny_Expr_any ?_ I.quiet rfl;refine Æ6 ?_;have ld:∀ {Q:Ã->Å->Prop}{E:Ã->Å->Prop},Q (.ref f) s->Ñ (Ö X.prog X.w) X.A (eval (.Name y p1) X.env) Q E s:=λ{Q E} hq=>by
  obtain⟨m,hnm,hl⟩:=I.loc;obtain⟨u,r,l⟩:=hl i y _ hy eσ vy;cases (show u=Â8 f from r);rcases l with ⟨hk,hv⟩ | ⟨hk,c,hc,hcell⟩
  ·exact Ï6 (Ì7 I.ok.kind hk hnm hv hq) dy
  ·rcases hk with hk | hk
   ·exact Ï6 (Ö5 I.ok.kind hk hc hcell hq) dy
   ·exact Ï6 (wpAny_loadName_free I.ok.kind hk hc hcell hq cy) dy
 refine ld ?_;refine PySem.W.callWith_of (P:=λh=>h.get? f=some ⟨c0,d0,.func fd,sl⟩) rfl (λh e=>⟨.frame,.inl rfl,?_⟩) (evalArgs_nil3 ⟨hof,?_⟩)
 ·exact(Ì2 (part:=none) e).andThen .now
 refine Ø6 (Ë0 (th.run X.A X.stack s H hr I.x62 U0 sH) λr s1 hq=>?_);cases r with
 |ok fl =>
  cases fl with
  |ret u=>obtain⟨_,_,_,_,_,_,_,z⟩:=hq;exact z.elim
  |next=>exact ý hq
  |brk=>exact ý hq|cont=>exact ý hq
 |error e =>
  obtain⟨a,cls,a0,H1,B,rfl,os1,bare1,un,hok,fl,na,bB,rfl,s1H⟩:=hq;have nA:s.heap.get? a=none:=by
   cases ea:s.heap.get? a with
   |none=>rfl
   |some o =>
    exfalso;obtain⟨oe,vs,hoe,_,hde,_⟩:=fl.first;by_cases hb:a∈frs X.stack
    ·obtain⟨sl',e1⟩:=un.slot a o ea (I.x10 a hb) hb (by simp)
     obtain⟨_,o',ho',hd'⟩:=I.stack.mem hb;rw[ea] at ho';cases ho';rw[hoe] at e1;cases e1;exact hd' vs hde
    ·have:=bB a oe hoe hb (.inl ⟨o,ea⟩);rw[fl.2.1] at this;cases this
  have n0:X.s₀.heap.get? a=none:=by
   cases ea:X.s₀.heap.get? a with
   |none=>rfl
   |some o =>
    obtain⟨o',e1⟩:=U0.there a o ea (by simp)
    rw[nA] at e1;cases e1
  have aL:a≠X.env.locals:=λz=>by
   obtain⟨m,⟨o,_,_,ho,_⟩,_⟩:=I.loc;rw[z,ho] at nA;cases nA
  have aC:∀ x c,X.env.cells.lookup x=some c->c≠a:=λx c e z=>by
   obtain⟨v,o,ho,_⟩:=I.cell x c e;rw[z,nA] at ho;cases ho
  have aP:∀ p∈X.pn++pins,p.1≠a:=λp hp z=>by
   have:=(I.pin p hp).1;rw[z,nA] at this;cases this
  refine wpAny_looks_onW (I.ok.frames.trans (by rw[hS])) hf (by rw[← hS];exact fl) λh2 held2 sm2=>?_
  refine wpAny_landsW held2 λh3 fl3 sm3=>?_;have I3:Inv X pins σ H1 { s1 with heap:=h3 }:=P31 I os1 bare1 un hok bB fl3.1 (sm2.trans sm3);have at3:excAt a C h3:=by obtain⟨oe,e1,e2⟩:=fl3.there;exact⟨oe,e1,e2⟩
  refine wpAny_handleBy_cons (codeAny_handlers_test ?_) (λz=>nomatch z);refine Í4 I3.ok.kind hg (Ü7 (by rw[I3.ok.glob];exact I3.mod.glob.keeps I3.bk) hm ?_) dx
  refine(PySem.W.exm_one (h:=h3) I3.kIn at3.ty he).here ?_;refine codeAny_handlers_suite_as (lands_againW fl3 λh4 fl4 sm4=>?_);have I4:Inv X pins σ H1 { s1 with heap:=h4 }:=P31 I os1 bare1 un hok bB fl4.1 ((sm2.trans sm3).trans sm4);have at4:excAt a C h4:=by obtain⟨oe,e1,e2⟩:=fl4.there;exact⟨oe,e1,e2⟩
  obtain⟨m4,hn4,hl4⟩:=id I4.loc;refine wpAny_storeName_local hn hn4 (λh5 hn5 hs5=>?_) hkind;have offN:∀ (i:Nat) (x:Str),X.N[i]?=some x->x≠n:=λi x e z=>nN (by rw[← z];exact ä e)
  have I5:Inv X pins σ H1 { s1 with heap:=h5,toks:=s1.toks + 1 }:=Inv.t41 (s:={ s1 with heap:=h4 }) I4 hl4 hn5 hs5 λi x e=>if_neg (offN i x e);refine Ò9 (wpAny_Assign_Name ?_ rfl);refine Ï6 (Ì7 I.ok.kind hn hn5 (if_pos rfl) ?_) dn;refine C60 (v:=.ref a) I5 hN hz lz rfl (λs6 I6 hsame=>?_) (.inl hfn);refine Í6 ?_;show Ñ _ _ (do bindName X.env n .none;unbindBehindTheSuite X.env n p8) _ _ _;obtain⟨m6,hn6,hl6⟩:=id I6.loc;refine wpAny_nameGoes_keeps hn hn6 hkind λh7 v7 hn7 hs7=>?_;have I7:=Inv.t41 (t':=s6.toks + 1) I6 hl6 hn7 hs7 λi x e=>if_neg (offN i x e);have at7:excAt a C h7:=by
   obtain⟨oe,e1,e2⟩:=at4;obtain⟨b6,hb6,hor⟩:=hsame;have e5:h5.get? a=some oe:=(hs5.2 a aL).trans e1;have e6:s6.heap.get? a=some oe:=(hb6.2 a (λz=>by
    rcases hor with y | y
    ·exact aL (z.trans y)
    ·exact aC _ _ y z.symm)).trans e5
   exact⟨oe,(hs7.2 a aL).trans e6,e2⟩
  have nT:H1 a=none:=na;have I8:=Inv.k52 (T:=a) (o:=.ext (excAt a C)) I7 nT n0 aL aC aP ⟨at7,by obtain⟨oe,e1,_⟩:=at7;exact⟨oe,e1⟩,λh1 h2 p kk=>l91 p kk⟩
  exact⟨_,_,I8,q a H1 s1H na⟩
end
section
variable {P:Ü}{w:ì}{K:Â}{mg:Str->Option Ã}{base:æ}{N:List Str}{qual:Str}{scope:ú}{f c':Æ}{cl:List (Str × Æ)}{s₀:Å}{H₀:Hp}{k:Nat}{pm ctv cls:Ã}{params:Ì5}{body:Ï}{vs:List V}
theorem m51{RR:Hp->Prop}(hf:FnL P w H₀ s₀ f (kla_fn "<lambda>" qual params body scope cl pm (.ref c') ctv))(hc:H₀ c'=some (.ext (recAt c' qual)))
  (hk:scope.kind=.function) (hco:scope.isCoroutine=false) (hgen:scope.isGenerator=false) (hcell:∀ x∈scope.names,x.2≠.cell)
  (hb:bindArgs (kla_fn "<lambda>" qual params body scope cl pm (.ref c') ctv) ⟨[],[]⟩=pure []) (FR:m31 scope cl N vs H₀ s₀.heap)
  (hbody:∀ (A:ö) (outer:List Env) (s:Å) (H:Hp),z30 k (A.deeper (envX qual scope s.heap.objs.size f (.ref c') cl))->a20 H₀ H ->
   ∃ t,PE (R10 P w K mg base N qual scope f (.ref c') cl A outer s H λc _ H'=>c=cls/\RR H') body t/\t (vs.map some) H λ_ _=>False) :
  R20 P w K mg base (k + 1) f H₀ s₀ cls RR:=by
 refine⟨⟨_,hf⟩,λA outer s H hr e0 un sm=>?_⟩;obtain⟨c0,d0,sl,hof⟩:=hf outer s H un sm e0.hok;have hrec:s.heap.CodeRec (.ref c') qual:=(e0.hok c' _ (sm _ _ hc)).1;have lim:s.heap.NoLimit:=e0.mod.nolimit.keeps λb o e=>(e0.bs b o e).1;refine PySem.W.kla_callFunE hr.depth hof rfl hco hgen rfl hrec ?_;rw[hb];refine Ç (wpAny_newFunctionEnv hcell (λy hy=>absurd hy (by simp)) (λh₁ hns hsb=>⟨lim.fresh _ hsb,?_⟩) hk)
 show Ñ2 _ _ (.expr body (envX qual scope s.heap.objs.size f (.ref c') cl)) _ _;have hkeep1:∀ b o,s.heap.get? b=some o->h₁.get? b=some o:=λb o e=>hsb.extBut b o (å (ß e)) (Ä _ e);obtain⟨t,ht,hq⟩:=hbody A outer s H (hr.deeper _) sm;have I:Inv (R10 P w K mg base N qual scope f (.ref c') cl A outer s H λc _ H'=>c=cls/\RR H') [] (vs.map some) H { s with heap:=h₁,toks:=s.toks + 0 }:=W61 e0 hr.hd hk (FR.later un) hns hkeep1;refine PySem.W.kla_codeExpr (Â4 (ht [] _ _ H _ I hq) (λv s' hv=>?_) λe s' he=>he);obtain⟨_,_,_,_,z⟩:=hv;exact z.elim
end
def z32(X:Cx)(P:Æ)(qual:Str)(N:List Str)(lsc:ú)(body:Ï)(k:Nat)(cls:Ã)(RR:Hp->Hp->Prop)(sp:Å->Sp):TE:=λσ H Q=>Tab H P qual/\∃ vs:List V,vs.length=N.length /\
 (∀ (i:Nat) (x:Str) (v:V),N[i]?=some x->vs[i]?=some v->∃ j:Nat,X.N[j]?=some x/\σ[j]?=some (some v)) /\
 ∀ H2,L10 P H H2->Tab H2 P qual ->
  (∀ (f c':Æ) (cl:List (Str × Æ)) (A:ö) (outer:List Env) (s:Å) (H3:Hp),z30 k (A.deeper (envX qual lsc s.heap.objs.size f (.ref c') cl))->a20 H2 H3 ->
   ∃ t,PE (R10 X.prog X.w X.K X.mg X.base N qual lsc f (.ref c') cl A outer s H3 λc _ H'=>c=cls/\RR H2 H') body t/\t (vs.map some) H3 λ_ _=>False) /\
  ∀ (s2:Å) (f:Æ),R20 X.prog X.w X.K X.mg X.base (k + 1) f H2 s2 cls (RR H2)->sp s2 [.ref f] H2 Q λ_ _ _=>False
section
variable {X:Cx}{c P f:Æ}{fd:Ä0}{qual g par:Str}{N:List Str}{params:Ì5}{body:Ï}{lsc:ú}{lpos p pos:Pos}{k kr:Nat}{cls:Ã}{sp:Å->Sp}
theorem Y80{RR:Hp->Hp->Prop}(F:m21 X.prog X.w X.K X.mg X.base CX0 kr f fd [par] sp)(hr:z30 kr X.A)(hg:Gl X g)(hm:X.mg g=some (.ref f))(hk:Ì1 X.K (.ref f)=true)(hb:Binds X.K fd [par] [])
  (hcode:X.env.code=.ref c) (hhd:Ä2 X.K c P=true) (hqu:X.env.qual++"<lambda>"=qual)
  (hbm:∃ bm ob,X.mg "__builtins__"=some (.ref bm)/\bm≠Ë9/\X.base.get? bm=some ob/\ob.cls=.type "module"/\ob.dict=some Ë9/\ob.data=.plain)
  (hfr:∀ y∈lsc.names,y.2=.free->X.env.kindOf y.1=some .cell) (hnc:∀ y∈lsc.names,y.2≠.cell) (hNf:∀ x∈N,lsc.names.lookup x=some .free)
  (lk:lsc.kind=.function) (lco:lsc.isCoroutine=false) (lge:lsc.isGenerator=false) (hdef:defaultsOf params X.env=([],[]))
  (hbd:∀ (cl:List (Str × Æ)) (pm ctv:Ã) (c':Æ),bindArgs (kla_fn "<lambda>" qual params body lsc cl pm (.ref c') ctv) ⟨[],[]⟩=pure [])
  (hdb:(g == ("__debug__":Str))=false:=by decide) (he:ó [.Lambda params body lsc lpos] X.env=[(false,eval (.Lambda params body lsc lpos) X.env)]:=by rfl) :
  PE X (.Call (.Name g p) [.Lambda params body lsc lpos] [] pos) (z32 X P qual N lsc body k cls RR sp):=by
 intro pins s σ H Q I h;obtain⟨TB,vs,hlen,hvs,q⟩:=h;refine Æ6 (I70 I hg hm ?_ hdb);refine callWith_K (h₀:=X.base) I.ok.mod.kin hk ?_ he rfl;rw[he];refine Ô6 (I21 I hdef hcode hhd TB hqu hbm (λy hy hf=>I.ok.has y.1 (.inl (hfr y hy hf))) λcl f' c' pm ctv h2 tk H2 cl1 cl2 I2 TB2 KB ho nf hc _=>?_);have FR:m31 lsc cl N vs H2 h2:=by
  refine⟨λx y c e1 e2=>I2.ok.inj x y c (cl1 x c e1) (cl1 y c e2),λx hx=>?_,λx c e=>I2.cell x c (cl1 x c e),λx c e=>I2.freeC x c (cl1 x c e),λi x v h1 h2=>?_,hlen⟩
  ·rcases hx with hx | hx
   ·exact absurd rfl (hnc _ (À8 hx))
   ·exact cl2 _ (À8 hx) rfl
  ·have hf:=hNf x (ä h1);have mem:=À8 hf;have kc:X.env.kindOf x=some .cell:=hfr _ mem rfl;obtain⟨j,e1,e2⟩:=hvs i x v h1 h2;obtain⟨m,_,hl⟩:=I2.loc;obtain⟨u,r,l⟩:=hl j x v e1 e2 (Ö1 (Ð4 kc));obtain⟨c2,ec2⟩:=cl2 _ mem rfl;refine⟨hf,c2,u,ec2,r,?_⟩;rcases l with ⟨kl,_⟩ | ⟨_,c3,ec3,z⟩
   ·rw[kc] at kl;cases kl
   ·have:=cl1 _ _ ec2;rw[ec3] at this;cases this;exact z
 obtain⟨q1,q2⟩:=q H2 KB TB2;have th:R20 X.prog X.w X.K X.mg X.base (k + 1) f' H2 { s with heap:=h2,toks:=tk } cls (RR H2):=m51 (s₀:={ s with heap:=h2,toks:=tk }) (.new ho nf) hc lk lco lge hnc (hbd cl pm ctv c') FR λA outer s H3 hr sm=>q1 f' c' cl A outer s H3 hr sm;refine Î8 ⟨I2.kIn,?_⟩;have hsp:=q2 { s with heap:=h2,toks:=tk } f' th;refine Ø6 (Ë0 (F.run X.A X.stack { s with heap:=h2,toks:=tk } H2 ⟨[.ref f'],[]⟩ [.ref f'] [.ref f'] Q _ hr I2.x62 (hb _ [.ref f'] I2.kIn rfl) (.cons rfl .nil) hsp) λr s' hq=>?_);cases r with
 |error e=>exact ý hq
 |ok fl =>
  cases fl with
  |ret u=>exact I2.after hq|next=>exact ý hq
  |brk=>exact ý hq|cont=>exact ý hq
end
abbrev u52:List Str:=["_law_call","_law_error","_law_marks_here"]
abbrev k82:Scope:={ kind:=.function,names:=[(".0",.local),("_law_k",.local),("_law_marks_here",.free)],isGenerator:=false,isCoroutine:=false,more:=[] }
abbrev u80:Scope:={ kind:=.function,names:=[("_law_call",.local),("_law_error",.local),("e",.local),("_law_marks_here",.cell),("ChanceError",.globalImplicit),("isinstance",.globalImplicit),("NoWeb",.globalImplicit),("NoLot",.globalImplicit),("NoPlaces",.globalImplicit),("NoPlace",.globalImplicit),("NoTie",.globalImplicit),("NoChance",.globalImplicit),("NoChances",.globalImplicit),("NoPaper",.globalImplicit),("TooMany",.globalImplicit),("NoText",.globalImplicit),("NoLine",.globalImplicit),("NoDeed",.globalImplicit),("ValueError",.globalImplicit),("range",.globalImplicit)],isGenerator:=false,isCoroutine:=false,more:=[("fast",.str "_law_call"),("fast",.str "_law_error"),("fast",.str "e"),("fast",.str "_law_marks_here"),("fast",.str "_law_k")] }
def Y90(n:Nat):List Stmt:=[.Assign [(.Name "_law_error" ⟨n,4,n,14⟩)] (.Constant .none 0 ⟨n,17,n,21⟩) ⟨n,4,n,21⟩,
   .Try [.Expr (.Call (.Name "_law_call" ⟨n + 2,8,n + 2,17⟩) [] [] ⟨n + 2,8,n + 2,19⟩) ⟨n + 2,8,n + 2,19⟩] [.ExceptHandler (some (.Name "ChanceError" ⟨n + 3,11,n + 3,22⟩)) (some "e") [.Assign [(.Name "_law_error" ⟨n + 4,8,n + 4,18⟩)] (.Name "e" ⟨n + 4,21,n + 4,22⟩) ⟨n + 4,8,n + 4,22⟩] ⟨n + 3,4,n + 4,22⟩] [] [] ⟨n + 1,4,n + 4,22⟩,
   .Assign [(.Name "_law_marks_here" ⟨n + 5,4,n + 5,19⟩)] (.List [(.Call (.Name "isinstance" ⟨n + 5,23,n + 5,33⟩) [(.Name "_law_error" ⟨n + 5,34,n + 5,44⟩),(.Name "NoWeb" ⟨n + 5,46,n + 5,51⟩)] [] ⟨n + 5,23,n + 5,52⟩),(.Call (.Name "isinstance" ⟨n + 5,54,n + 5,64⟩) [(.Name "_law_error" ⟨n + 5,65,n + 5,75⟩),(.Name "NoLot" ⟨n + 5,77,n + 5,82⟩)] [] ⟨n + 5,54,n + 5,83⟩),(.Call (.Name "isinstance" ⟨n + 5,85,n + 5,95⟩) [(.Name "_law_error" ⟨n + 5,96,n + 5,106⟩),(.Name "NoPlaces" ⟨n + 5,108,n + 5,116⟩)] [] ⟨n + 5,85,n + 5,117⟩)] ⟨n + 5,22,n + 5,118⟩) ⟨n + 5,4,n + 5,118⟩,
   .Assign [(.Name "_law_marks_here" ⟨n + 6,4,n + 6,19⟩)] (.BinOp (.Name "_law_marks_here" ⟨n + 6,22,n + 6,37⟩) .Add (.List [(.Call (.Name "isinstance" ⟨n + 6,41,n + 6,51⟩) [(.Name "_law_error" ⟨n + 6,52,n + 6,62⟩),(.Name "NoPlace" ⟨n + 6,64,n + 6,71⟩)] [] ⟨n + 6,41,n + 6,72⟩),(.Call (.Name "isinstance" ⟨n + 6,74,n + 6,84⟩) [(.Name "_law_error" ⟨n + 6,85,n + 6,95⟩),(.Name "NoTie" ⟨n + 6,97,n + 6,102⟩)] [] ⟨n + 6,74,n + 6,103⟩),(.Call (.Name "isinstance" ⟨n + 6,105,n + 6,115⟩) [(.Name "_law_error" ⟨n + 6,116,n + 6,126⟩),(.Name "NoChance" ⟨n + 6,128,n + 6,136⟩)] [] ⟨n + 6,105,n + 6,137⟩)] ⟨n + 6,40,n + 6,138⟩) ⟨n + 6,22,n + 6,138⟩) ⟨n + 6,4,n + 6,138⟩,
   .Assign [(.Name "_law_marks_here" ⟨n + 7,4,n + 7,19⟩)] (.BinOp (.Name "_law_marks_here" ⟨n + 7,22,n + 7,37⟩) .Add (.List [(.Call (.Name "isinstance" ⟨n + 7,41,n + 7,51⟩) [(.Name "_law_error" ⟨n + 7,52,n + 7,62⟩),(.Name "NoChances" ⟨n + 7,64,n + 7,73⟩)] [] ⟨n + 7,41,n + 7,74⟩),(.Call (.Name "isinstance" ⟨n + 7,76,n + 7,86⟩) [(.Name "_law_error" ⟨n + 7,87,n + 7,97⟩),(.Name "NoPaper" ⟨n + 7,99,n + 7,106⟩)] [] ⟨n + 7,76,n + 7,107⟩),(.Call (.Name "isinstance" ⟨n + 7,109,n + 7,119⟩) [(.Name "_law_error" ⟨n + 7,120,n + 7,130⟩),(.Name "TooMany" ⟨n + 7,132,n + 7,139⟩)] [] ⟨n + 7,109,n + 7,140⟩)] ⟨n + 7,40,n + 7,141⟩) ⟨n + 7,22,n + 7,141⟩) ⟨n + 7,4,n + 7,141⟩,
   .Assign [(.Name "_law_marks_here" ⟨n + 8,4,n + 8,19⟩)] (.BinOp (.Name "_law_marks_here" ⟨n + 8,22,n + 8,37⟩) .Add (.List [(.Call (.Name "isinstance" ⟨n + 8,41,n + 8,51⟩) [(.Name "_law_error" ⟨n + 8,52,n + 8,62⟩),(.Name "NoText" ⟨n + 8,64,n + 8,70⟩)] [] ⟨n + 8,41,n + 8,71⟩),(.Call (.Name "isinstance" ⟨n + 8,73,n + 8,83⟩) [(.Name "_law_error" ⟨n + 8,84,n + 8,94⟩),(.Name "NoLine" ⟨n + 8,96,n + 8,102⟩)] [] ⟨n + 8,73,n + 8,103⟩),(.Call (.Name "isinstance" ⟨n + 8,105,n + 8,115⟩) [(.Name "_law_error" ⟨n + 8,116,n + 8,126⟩),(.Name "NoDeed" ⟨n + 8,128,n + 8,134⟩)] [] ⟨n + 8,105,n + 8,135⟩)] ⟨n + 8,40,n + 8,136⟩) ⟨n + 8,22,n + 8,136⟩) ⟨n + 8,4,n + 8,136⟩,
   .If (.UnaryOp .Not (.Call (.Name "isinstance" ⟨n + 9,11,n + 9,21⟩) [(.Name "_law_error" ⟨n + 9,22,n + 9,32⟩),(.Name "ValueError" ⟨n + 9,34,n + 9,44⟩)] [] ⟨n + 9,11,n + 9,45⟩) ⟨n + 9,7,n + 9,45⟩) [.Return (some (.Constant .none 0 ⟨n + 10,15,n + 10,19⟩)) ⟨n + 10,8,n + 10,19⟩] [] ⟨n + 9,4,n + 10,19⟩,
   .Return (some (.ListComp (.Name "_law_k" ⟨n + 11,12,n + 11,18⟩) [{ target:=(.Name "_law_k" ⟨n + 11,23,n + 11,29⟩),iter:=(.Call (.Name "range" ⟨n + 11,33,n + 11,38⟩) [(.Constant (.int 12) 0 ⟨n + 11,39,n + 11,41⟩)] [] ⟨n + 11,33,n + 11,42⟩),ifs:=[(.Subscript (.Name "_law_marks_here" ⟨n + 11,46,n + 11,61⟩) (.Name "_law_k" ⟨n + 11,62,n + 11,68⟩) ⟨n + 11,46,n + 11,69⟩)],is_async:=0 }] k82 ⟨n + 11,11,n + 11,70⟩)) ⟨n + 11,4,n + 11,70⟩]
theorem k92:s51 k82 u80 u52 ["_law_k"] [("_law_marks_here",2)]=true:=by decide +kernel
theorem I31(K:Â)(hK:X.K=K:=by rfl):IxR X (H52 K):=by subst hK;exact X80
abbrev names12:List Str:=["NoWeb","NoLot","NoPlaces","NoPlace","NoTie","NoChance","NoChances","NoPaper","TooMany","NoText","NoLine","NoDeed"]
structure R30(K:PySem.W.Frag)(mg:Str->Option Value)(C:Addr)(j:Nat):Prop where
 cl:∀ (i:Nat) (x:Str),names12[i]?=some x->∃ Ci,mg x=some (.ref Ci)/\PySem.W.kitOne K (.ref C) (.ref Ci)=some (decide (i=j))
 lk:i40 K C
 hd:PySem.W.hasDictIn K C=true
 ve:PySem.W.kitOne K (.ref C) (.type "ValueError")=some true
 nv:mg "ValueError"=none
 ce:∃ D,mg "ChanceError"=some (.ref D)/\PySem.W.exmOne K (.ref C) (.ref D)=some true
 lt:j < 12
theorem R40:è "ValueError"=some (.type "ValueError"):=by decide +kernel
theorem L20:è "isinstance"=some (.builtin "isinstance"):=by decide +kernel
def W71(P:Ü)(w:ì)(K:Â)(mg:Str->Option Ã)(base:æ)(k:Nat):Å->Sp:=λs vs H Q _=>∃ (f C:Æ) (j:Nat) (RR:Hp->Prop),vs=[.ref f]/\R20 P w K mg base k f H s (.ref C) RR/\R30 K mg C j/\∀ l H1 H',RR H1->a20 H1 H'->H' l=none->Q (.ref l) (upd H' l (.lst [.int j]))
abbrev D60(j:Nat):List V:=[V.bl (decide (0=j)),.bl (decide (1=j)),.bl (decide (2=j))]++[.bl (decide (3=j)),.bl (decide (4=j)),.bl (decide (5=j))]++[.bl (decide (6=j)),.bl (decide (7=j)),.bl (decide (8=j))]++[.bl (decide (9=j)),.bl (decide (10=j)),.bl (decide (11=j))]
theorem I41{i j:Nat}(h:i < 12):atI (D60 j) (0 + (i:Int))=some (.bl (decide (i=j))):=by
 rw[Ö8];refine J20 ?_;rw[show D60 j=(î 12).map λi=>V.bl (decide (i=j)) from rfl,Ø,Ì3 h];rfl
section
variable {P:Ü}{w:ì}{K:Â}{mg:Str->Option Ã}{base:æ}
theorem scR:k00 u52 ["_law_call"] u80:=⟨rfl,rfl,rfl,by decide +kernel,rfl,by decide +kernel,by decide +kernel⟩
theorem ndR:(d00 ["_law_k"] [("_law_marks_here",2)]).Nodup:=by decide +kernel
def tIs(K:Â)(c:V)(cv:Ã):TE:=λσ H Q=>∃ (a C:Æ) (b:Bool),σ[1]?=some (some (.ref a))/\k42 H a C/\i40 K C/\PySem.W.hasDictIn K C=true/\Ì0 K (.ref C) cv=some b/\Q (.bl b) H
def O32(K:Â)(c0 c1 c2:Æ):TE:=λσ H Q=>∃ (a C:Æ) (b0 b1 b2:Bool),σ[1]?=some (some (.ref a))/\k42 H a C/\i40 K C/\PySem.W.hasDictIn K C=true/\Ì0 K (.ref C) (.ref c0)=some b0/\Ì0 K (.ref C) (.ref c1)=some b1/\Ì0 K (.ref C) (.ref c2)=some b2/\∀ l,H l=none->Q (.ref l) (upd H l (.lst [.bl b0,.bl b1,.bl b2]))
section
variable {X:Cx}{c0 c1 c2:Æ}{x x0 x1 x2:Str}{p p0 p1 p2 p3 q0 q1 q2 q3 r0 r1 r2 r3:Pos}
theorem I51(hN:X.N[1]?=some ("_law_error":Str))(hv:Vis X.env.scope "_law_error")(hi:Gl X "isinstance")(Ti:X.mg "isinstance"=none)(hc:PE X (.Name x p2) (tC c))(hcv:(∃ C,c=.ref C/\cv=.ref C)∨∃ T,c=.ty T/\cv=.type T):PE X (.Call (.Name "isinstance" p0) [.Name "_law_error" p1,.Name x p2] [] p3) (tIs X.K c cv) :=
 λpins s σ H Q I q=>by
  obtain⟨a,C,b,e,h1,h2,h3,h4,h5⟩:=q;have g:=B70 (p:=p0) (pos:=p3) m01 hi Ti L20 (d40 (o00 (i:=1) (pos:=p1) hN hv) (d40 hc r70));exact g pins s σ H Q I ⟨_,e,a,C,_,_,b,rfl,hcv,h1,h2,h3,h4,h5⟩
theorem f11(hN:X.N[1]?=some ("_law_error":Str))(hv:Vis X.env.scope "_law_error")(hi:Gl X "isinstance")(Ti:X.mg "isinstance"=none)(g0:PE X (.Name x0 p2) (tC (.ref c0)))(g1:PE X (.Name x1 q2) (tC (.ref c1)))(g2:PE X (.Name x2 r2) (tC (.ref c2))) :
  PE X (.List [.Call (.Name "isinstance" p0) [.Name "_law_error" p1,.Name x0 p2] [] p3,.Call (.Name "isinstance" q0) [.Name "_law_error" q1,.Name x1 q2] [] q3,.Call (.Name "isinstance" r0) [.Name "_law_error" r1,.Name x2 r2] [] r3] p) (O32 X.K c0 c1 c2) :=
 λpins s σ H Q I q=>by
  obtain⟨a,C,b0,b1,b2,e,h1,h2,h3,k0,k1,k2,h5⟩:=q;exact p81 (d40 (I51 hN hv hi Ti g0 (.inl ⟨c0,rfl,rfl⟩)) (d40 (I51 hN hv hi Ti g1 (.inl ⟨c1,rfl,rfl⟩)) (d40 (I51 hN hv hi Ti g2 (.inl ⟨c2,rfl,rfl⟩)) r70))) pins s σ H Q I
   ⟨a,C,b0,e,h1,h2,h3,k0,a,C,b1,e,h1,h2,h3,k1,a,C,b2,e,h1,h2,h3,k2,D40 (by show 3<=64;decide),h5⟩
end
theorem l02{st:Ä4}{f:Æ}{fd:Ä0}{k n:Nat}(F:Fun K "_law_refused" "_law_refused" st f fd)(es:b70 st=u80)(eb:i30 st=Y90 n)(Ti:mg "isinstance"=none)(Tr:mg "range"=none):m21 P w K mg base CX0 (k + 1) f fd ["_law_call"] (W71 P w K mg base k):=by
 refine F.okS (by rw[es];exact scR) (λs vs H Q E h=>?_) (λcdv A outer s H vs Q E hr h=>?_)
 ·obtain⟨f,C,j,RR,rfl,_⟩:=h;rfl
 ·obtain⟨g,C,j,RR,rfl,th,R,q⟩:=h;have hsc:=k92;rw[es] at hr;rw[es,eb];unfold Y90;clear eb;obtain⟨c0,m0,k0⟩:=R.cl 0 _ rfl;obtain⟨c1,m1,k1⟩:=R.cl 1 _ rfl;obtain⟨c2,m2,k2⟩:=R.cl 2 _ rfl;obtain⟨c3,m3,k3⟩:=R.cl 3 _ rfl;obtain⟨c4,m4,k4⟩:=R.cl 4 _ rfl;obtain⟨c5,m5,k5⟩:=R.cl 5 _ rfl;obtain⟨c6,m6,k6⟩:=R.cl 6 _ rfl;obtain⟨c7,m7,k7⟩:=R.cl 7 _ rfl;obtain⟨c8,m8,k8⟩:=R.cl 8 _ rfl;obtain⟨c9,m9,k9⟩:=R.cl 9 _ rfl;obtain⟨c10,m10,k10⟩:=R.cl 10 _ rfl;obtain⟨c11,m11,k11⟩:=R.cl 11 _ rfl;obtain⟨D,mD,kD⟩:=R.ce;refine⟨_,j30 (z20 (i:=1) scR.nd rfl (Ð4 rfl) o71)
   (j30 (t51 (i:=0) (j:=1) (f:=g) (C:=C) (D:=D) (k:=k) rfl rfl rfl hr th rfl (Ð4 rfl) (-0) (-0) rfl mD (-0) kD rfl (by show ¬ (("e":Str)∈u52);decide +kernel) (-0) scR.nd rfl (Ð4 rfl) rfl)
   (j30 (z20 (i:=2) scR.nd rfl (Ö1 rfl) (f11 rfl (Ð4 rfl) rfl Ti (e00 rfl m0 rfl) (e00 rfl m1 rfl) (e00 rfl m2 rfl)))
   (j30 (z20 (i:=2) scR.nd rfl (Ö1 rfl) (E11 q61 (pv 2) (f11 rfl (Ð4 rfl) rfl Ti (e00 rfl m3 rfl) (e00 rfl m4 rfl) (e00 rfl m5 rfl))))
   (j30 (z20 (i:=2) scR.nd rfl (Ö1 rfl) (E11 q61 (pv 2) (f11 rfl (Ð4 rfl) rfl Ti (e00 rfl m6 rfl) (e00 rfl m7 rfl) (e00 rfl m8 rfl))))
   (j30 (z20 (i:=2) scR.nd rfl (Ö1 rfl) (E11 q61 (pv 2) (f11 rfl (Ð4 rfl) rfl Ti (e00 rfl m9 rfl) (e00 rfl m10 rfl) (e00 rfl m11 rfl))))
   (j30 (g52 (O21 (o81 (I51 (cv:=.type "ValueError") rfl (Ð4 rfl) rfl Ti (I80 (v:=.ty "ValueError") rfl R.nv R40 rfl) (.inr ⟨_,rfl,rfl⟩)))) (p01 (d91 o71)) o91)
   (p01 (d91 (r21 (own:=["_law_k"]) (capt:=[("_law_marks_here",2)]) rfl (by exact r80.of (scX:=u80) (N:=u52) rfl rfl hsc) (P10 rfl Tr (d40 d71 r70))
    (λcl C s H fp=>p11 (i:=0) ndR rfl (Ð4 rfl)) (λcl C s H fp=>r01 (o81 (T91 (I31 K) (pv 1) (pv 0) (λ_ _=>rfl)))) (λcl C s H fp=>pv 0)))))))))),?_⟩
  refine⟨rfl,a20.refl H,λa H1 s1 na=>?_⟩;have hX:k42 (upd H1 a (.ext (excAt a C))) a C:=a90;have keep:∀ {H'},a20 (upd H1 a (.ext (excAt a C))) H'->k42 H' a C:=λsm=>sm _ _ hX;refine⟨a,C,_,_,_,rfl,hX,R.lk,R.hd,k0,k1,k2,λl1 hl1=>?_⟩;have t1:=a20.new (.lst [.bl (decide (0=j)),.bl (decide (1=j)),.bl (decide (2=j))]) hl1;refine⟨_,rfl,a,C,_,_,_,rfl,keep t1,R.lk,R.hd,k3,k4,k5,λl2 hl2=>?_⟩;have t2:=a20.new (.lst [.bl (decide (3=j)),.bl (decide (4=j)),.bl (decide (5=j))]) hl2;refine⟨l1,l2,_,_,rfl,rfl,t2 _ _ a90,a90,D40 (by show 3 + 3<=64;decide),λl3 hl3=>?_⟩
  have t3:=t1.trans (t2.trans (a20.new (.lst ([.bl (decide (0=j)),.bl (decide (1=j)),.bl (decide (2=j))]++[.bl (decide (3=j)),.bl (decide (4=j)),.bl (decide (5=j))])) hl3));refine⟨_,rfl,a,C,_,_,_,rfl,keep t3,R.lk,R.hd,k6,k7,k8,λl4 hl4=>?_⟩;have t4:=a20.new (.lst [.bl (decide (6=j)),.bl (decide (7=j)),.bl (decide (8=j))]) hl4;refine⟨l3,l4,_,_,rfl,rfl,t4 _ _ a90,a90,D40 (by show 6 + 3<=64;decide),λl5 hl5=>?_⟩
  have t5:=t3.trans (t4.trans (a20.new (.lst ([.bl (decide (0=j)),.bl (decide (1=j)),.bl (decide (2=j))]++[.bl (decide (3=j)),.bl (decide (4=j)),.bl (decide (5=j))]++[.bl (decide (6=j)),.bl (decide (7=j)),.bl (decide (8=j))])) hl5));refine⟨_,rfl,a,C,_,_,_,rfl,keep t5,R.lk,R.hd,k9,k10,k11,λl6 hl6=>?_⟩;have t6:=a20.new (.lst [.bl (decide (9=j)),.bl (decide (10=j)),.bl (decide (11=j))]) hl6;refine⟨l5,l6,_,_,rfl,rfl,t6 _ _ a90,a90,D40 (by show 9 + 3<=64;decide),λl7 hl7=>?_⟩
  have t7:=t5.trans (t6.trans (a20.new (.lst (D60 j)) hl7));refine⟨a,C,_,rfl,keep t7,R.lk,R.hd,R.ve,_,rfl,L92 ?_⟩;refine⟨12,rfl,by decide,by decide,H31 (lo:=0) (n:=12) (λi ys H'=>a20 (upd H1 a (.ext (excAt a C))) H'/\H' l7=some (.lst (D60 j))/\ys=if j < i then [.int j] else []) (D40 (-0)) ⟨t7,a90,by rw[if_neg ∅]⟩ (λi ys H' p=>by rw[p.2.2];split <;> simp <;> omega) ?_ ?_⟩
  ·rintro i ys H' hi ⟨s8,h8,rfl⟩;refine gN ?_;refine⟨_,rfl,_,rfl,l7,D60 j,0 + (i:Int),.bl (decide (i=j)),rfl,rfl,SqL.of h8,I41 hi,_,rfl,?_⟩;refine M02 (λe=>?_) (λe=>?_)
   ·have ej:i=j:=of_decide_eq_true e;subst ej;refine⟨_,rfl,s8,h8,?_⟩;rw[if_neg ∅,if_pos ∅,Ö8];rfl
   ·have ej:¬ i=j:=λz=>e (decide_eq_true z);refine⟨s8,h8,?_⟩;by_cases hj:j < i
    ·rw[if_pos hj,if_pos ∅]
    ·rw[if_neg hj,if_neg ∅]
  ·rintro ys H' p ⟨s8,_,rfl⟩ hp;rw[if_pos R.lt];exact q p H1 H' s1 ((a20.new _ na).trans s8) hp
end
end L2
namespace Q
open PySem L2
abbrev Z:=Option (Int × Bool)
inductive S where
 |d (x:D) | fr (xs:List D) | z
 |fn (n:Str)
inductive R (α:Type) where
 |ok (a:α) (z:Z) | er (c:Nat) (z:Z)
abbrev M(α:Type):=Z->Option (R α)
def M.ret{α:Type}(a:α):M α:=λz=>some (.ok a z)
def M.no{α:Type}:M α:=λ_=>none
def M.of{α:Type}:Option α->M α
 |some a=>M.ret a|none=>M.no
def M.bind{α β:Type}(m:M α)(f:α->M β):M β:=λz=>match m z with
 |some (.ok a z1)=>f a z1|some (.er c z1)=>some (.er c z1)|none=>none
def M.calm{α:Type}(m:M α):M α:=λz=>match m z with
 |some (.ok a z1)=>some (.ok a z1)|_=>none
abbrev Env:=List (Option S)
def pl:List S->Option D
 |[.d x]=>some x|[.fr xs]=>some (.lst xs)|_=>none
def one:List S->Option S
 |[s]=>some s|_=>none
def plS:S->S
 |.fr xs=>.d (.lst xs)|s=>s
def plD:S->Option D
 |.d x=>some x|.fr xs=>some (.lst xs)|_=>none
def plA:List S->Option (List D)
 |[]=>some []|.d x::r=>(plA r).map (x::·)|.fr xs::r=>(plA r).map (.lst xs::·)|_::_=>none
inductive Bi where
 |add | sub | mul | fdiv | mod | pow
inductive Cm where
 |eq | ne | lt | le | gt | ge | is | mem
inductive Bf where
 |len | sorted | tuple | list | sum | min | max | abs | all | int | sset | u12
inductive Ty where
 |int | bool | tuple | list | str | seq
inductive Pat where
 |v (i:Nat) | tup (ps:Pat) | nil | cons (p r:Pat)
inductive It where
 |seq | rng1 | rng2 | zip | enum
inductive Ex where
 |nil | cons (a r:Ex)
 |var (i:Nat) | con (x:D) | gint (g:Str) (i:Int)
 |tup (as:Ex) | lst (as:Ex)
 |bin (o:Bi) (a b:Ex) | cmp (o:Cm) (a b:Ex) | neg (a:Ex)
 |not (a:Ex) | and (a b:Ex) | or (a b:Ex) | orT (a b:Ex) | ite (c a b:Ex)
 |ch (o o':Cm) (a b c:Ex)
 |bf (f:Bf) (as:Ex) | isi (t:Ty) (a:Ex)
 |idx (a i:Ex) | sl (a lo hi:Ex)
 |call (f:Nat) (as:Ex)
 |comp (own:Nat) (capt:List Nat) (p:Pat) (it:It) (src cond el:Ex)
 |zget (i k:Nat) | lrng (b:Bool) (as:Ex)
 |callv (i:Nat) (l:List (Str × Nat)) (as:Ex)
 |refd (capt:List Nat) (a:Ex)
abbrev most:Nat:=100000
def H20:Nat:=2 ^ 4000
mutual
noncomputable def eqD:D->D->Bool
 |.non,.non=>true|.bl a,.bl b=>a == b|.int a,.int b=>a == b|.str a,.str b=>a == b|.bl a,.int b=>(if a then 1 else 0) == b|.int a,.bl b=>a == (if b then 1 else 0)|.tup a,.tup b=>l12 a b|.lst a,.lst b=>l12 a b|.dct,.dct=>true|_,_=>false
noncomputable def l12:List D->List D->Bool
 |[],[]=>true|a::r,b::q=>eqD a b&&l12 r q|_,_=>false
end
mutual
noncomputable def ltD:D->D->Option Bool
 |.int a,.int b=>some (decide (a < b))|.tup a,.tup b=>I61 a b|_,_=>none
noncomputable def I61:List D->List D->Option Bool
 |[],[]=>some false|[],_::_=>some true|_::_,[]=>some false|a::r,b::q=>if eqD a b then I61 r q else ltD a b
end
mutual
noncomputable def t30:D->Bool
 |.dct=>false|.tup l=>e10 l|.lst l=>e10 l|.str x=>PyData.strOk x|_=>true
noncomputable def e10:List D->Bool
 |[]=>true|x::r=>t30 x&&e10 r
end
mutual
noncomputable def deep:D->Nat
 |.tup l=>f10 l + 1|.lst l=>f10 l + 1|_=>0
noncomputable def f10:List D->Nat
 |[]=>0|x::r=>Ò1 (deep x) (f10 r)
end
def okD(d:D):Bool:=t30 d&&decide (deep d<=40)
def O70(l:List D):Bool:=e10 l&&decide (f10 l<=39)
theorem e60{c:Prop}[Decidable c]{α:Type}{a:Option α}{b:α}(h:(if c then a else none)=some b):c/\a=some b:=by
 by_cases k:c
 ·rw[if_pos k] at h;exact⟨k,h⟩
 ·rw[if_neg k] at h;cases h
def eqO(a b:D):Option Bool:=if okD a&&okD b then some (eqD a b) else none
def eqE:D->D->Option Bool
 |.tup l,.tup []=>some l.isEmpty|_,_=>none
def eqQ(a b:D):Option Bool:=if okD a&&okD b then some (eqD a b) else eqE a b
def ltO(a b:D):Option Bool:=if okD a&&okD b then ltD a b else none
def memD(x:D)(l:List D):Bool:=l.any λy=>eqD y x
def e52(x:D)(l:List D):Option Bool:=if okD x&&O70 l then some (memD x l) else none
def Z00:List D->Option (List Int)
 |[]=>some []|.int i::r=>(Z00 r).map (i::·)|_=>none
def B20:Bi->D->D->Option S
 |.add,.int i,.int j=>some (.d (.int (i + j)))|.add,.tup a,.tup b=>if a.length + b.length<=most then some (.d (.tup (a++b))) else none|.add,.lst a,.lst b=>if a.length + b.length<=most then some (.fr (a++b)) else none|.sub,.int i,.int j=>some (.d (.int (i - j)))|.mul,.int i,.int j=>if i.natAbs < H20/\j.natAbs < H20 then some (.d (.int (i * j))) else none|.mul,.tup a,.int j=>if 0<=j/\j.toNat * a.length<=most/\j < 1000000 then some (.d (.tup (é j.toNat a).flatten)) else none|.mul,.lst a,.int j=>if 0<=j/\j.toNat * a.length<=most/\j < 1000000 then some (.fr (é j.toNat a).flatten) else none|.fdiv,.int i,.int j=>if 0 < j/\j.natAbs < H20 then some (.d (.int (i / j))) else none|.mod,.int i,.int j=>if 0 < j then some (.d (.int (i % j))) else none|.pow,.int i,.int j=>if 0<=j/\j<=1000/\i.natAbs < 2 ^ 64 then some (.d (.int (i ^ j.toNat))) else none|_,_,_=>none
def t61:D->Bool
 |.non=>true|_=>false
def neO:D->D->Option Bool
 |.dct,.tup _=>some true|a,b=>(eqO a b).map (!·)
def B90:Cm->D->D->Option Bool
 |.eq,a,b=>eqQ a b|.ne,a,b=>neO a b|.lt,a,b=>ltO a b|.gt,.int a,.int b=>some (decide (b < a))|.le,.int a,.int b=>some (decide (a<=b))|.le,.tup a,.tup b=>(Z00 a).bind λns=>(Z00 b).map λms=>HT.leB ns ms|.ge,.int a,.int b=>some (decide (b<=a))|.is,.bl a,.bl b=>some (a == b)|.is,a,.non=>some (t61 a)|.mem,a,.tup l=>e52 a l|.mem,a,.lst l=>e52 a l|_,_,_=>none
def e62:Ty->D->Bool
 |.int,.int _=>true|.int,.bl _=>true|.bool,.bl _=>true|.tuple,.tup _=>true|.list,.lst _=>true|.str,.str _=>true|.seq,.tup _=>true|.seq,.lst _=>true|_,_=>false
def asB:D->Option Bool
 |.bl b=>some b|_=>none
def l22:D->Option (List D)
 |.tup l=>some l|_=>none
def asI:D->Option Int
 |.int i=>some i|_=>none
def Z10:D->Option (List D)
 |.tup l=>some l|.lst l=>some l|_=>none
mutual
noncomputable def flt:D->List Int
 |.int i=>[i]|.tup l=>I02 l|_=>[]
noncomputable def I02:List D->List Int
 |[]=>[]|x::r=>flt x++I02 r
end
mutual
noncomputable def eqT:D->D->Bool
 |.int i,.int j=>i == j|.tup a,.tup b=>X30 a b|_,_=>false
noncomputable def X30:List D->List D->Bool
 |[],[]=>true|x::r,y::q=>eqT x y&&X30 r q|_,_=>false
end
def t71:D->Nat
 |.int _=>0|.tup (.int _::_)=>1|.tup (.tup _::_)=>2|_=>3
def u90(x y:D):Bool:=t71 y == t71 x&&(ltD x y == some (MySort.k20 (flt x) (flt y))&&(eqT x y || !(flt x == flt y)))
def z50(l:List D):Bool:=l.all λx=>decide (t71 x < 3)&&(okD x&&l.all (u90 x))
def I71(k:D):List D->List D
 |[]=>[k]|y::r=>if MySort.k20 (flt y) (flt k) then y::I71 k r else k::y::r
def L30:List D->List D
 |[]=>[]|k::r=>I71 k (L30 r)
def n30(k m:Nat):D:=.tup ((TS.D20 k 0 m).map λ(i:Nat)=>.int i)
def h70(k:Nat):List D:=(î (2 ^ k)).map (n30 k)
def I81(k:Nat):List D:=(TS.sN k).map (n30 k)
def I12(l:List D):Option (List D):=((î 9).find? λk=>X30 l (h70 k)).map I81
def sortedS(x:D):Option S:=(Z10 x).bind λl=>if l.length < 64/\z50 l=true then some (.fr (L30 l)) else(I12 l).map S.fr
def I91:List D->Option Int
 |[]=>some 0|.int i::r=>(I91 r).map (i + ·)|_=>none
def bfD:Bf->List D->Option S
 |.len,[x]=>(Z10 x).map λl=>.d (.int l.length)|.tuple,[x]=>(Z10 x).map λl=>.d (.tup l)|.list,[x]=>(Z10 x).map λl=>.fr l|.all,[.lst l]=>(l.mapM asB).map λbs=>.d (.bl (bs.all id))|.sorted,[x]=>sortedS x|.sum,[x]=>((Z10 x).bind I91).map λi=>.d (.int i)|.min,[.int i,.int j]=>some (.d (.int (if j < i then j else i)))|.max,[.int i,.int j]=>some (.d (.int (if j > i then j else i)))|.abs,[.int i]=>some (.d (.int (if i < 0 then -i else i)))|.int,[.bl b]=>some (.d (.int (if b then 1 else 0)))|.int,[.int i]=>some (.d (.int i))|_,_=>none
def L40:D->D->Option D
 |.tup l,.int i=>atI l i|.lst l,.int i=>atI l i|_,_=>none
def cutD(l:List D)(lo hi:Option Int):List D:=(l.drop (HT.sIx l.length 0 lo)).take (HT.sIx l.length l.length hi - HT.sIx l.length 0 lo)
def slD:D->Option Int->Option Int->Option S
 |.tup l,lo,hi=>some (.d (.tup (cutD l lo hi)))|.lst l,lo,hi=>some (.fr (cutD l lo hi))|_,_,_=>none
def t81:List S->Option (Option Int)
 |[]=>some none|[.d (.int i)]=>some (some i)|_=>none
def B30:List D->Nat->List D
 |[],_=>[]|x::r,i=>.tup [.int i,x]::B30 r (i + 1)
def s10:List D->List D->List D
 |x::r,y::q=>.tup [x,y]::s10 r q|_,_=>[]
def inR:Int->Bool
 |.ofNat n=>Nat.blt n 100000|.negSucc n=>Nat.blt n 99999
theorem D70:inR j=true↔-100000 < j/\j < 100000:=by
 cases j with
 |ofNat n=>show ble (n + 1) 100000=true↔_;rw[Nat.ble_eq];show _↔-100000 < (n:Int)/\(n:Int) < 100000;omega|negSucc n=>show ble (n + 1) 99999=true↔_;rw[Nat.ble_eq,Int.negSucc_eq];omega
def itD:It->List D->Option (List D)
 |.seq,[x]=>Z10 x|.rng1,[.int j]=>if inR j=true then some ((î j.toNat).map λ(i:Nat)=>D.int i) else none|.rng2,[.int i,.int j]=>if inR i=true/\inR j=true then some ((î (j - i).toNat).map λ(k:Nat)=>D.int (i + k)) else none|.zip,[.tup a,.tup b]=>some (s10 a b)|.zip,[.lst a,.lst b]=>some (s10 a b)|.enum,[.tup a]=>some (B30 a 0)|.enum,[.lst a]=>some (B30 a 0)|_,_=>none
def lrS:Bool->List D->S
 |true,xs=>.d (.tup xs)|false,xs=>.fr xs
def lrN:Bool->Str
 |true=>"tuple"|false=>"list"
def lrD:List D->Option (List D)
 |[x]=>itD .rng1 [x]|l=>itD .rng2 l
mutual
noncomputable def e70:Pat->D->Env->Option Env
 |.v i=>λx ρ=>some (ρ.set i (some (.d x)))
 |.tup ps=>λx ρ=>match x with
  |.tup l=>bindL ps l ρ|_=>none
 |.nil=>λ_ _=>none|.cons _ _=>λ_ _=>none
noncomputable def bindL:Pat->List D->Env->Option Env
 |.nil=>λl ρ=>match l with
  |[]=>some ρ|_=>none
 |.cons p r=>λl ρ=>match l with
  |x::l=>(e70 p x ρ).bind λρ=>bindL r l ρ|_=>none
 |.v _=>λ_ _=>none|.tup _=>λ_ _=>none
end
def turns(f:D->M (Option D)):List D->M (List D)
 |[]=>M.ret []|x::r=>M.bind (f x) λo=>M.bind (turns f r) λl=>M.ret (match o with | some y=>y::l | none=>l)
def r60(fc fe:Env->M (List S))(p:Pat)(ρ0:Env)(x:D):M (Option D):=M.bind (M.of (e70 p x ρ0)) λρ'=>M.bind (fc ρ') λc=>match c with
 |[]=>M.bind (fe ρ') λy=>M.bind (M.of (pl y)) λy=>M.ret (some y)|[.d (.bl true)]=>M.bind (fe ρ') λy=>M.bind (M.of (pl y)) λy=>M.ret (some y)|[.d (.bl false)]=>M.ret none|_=>M.no
def t91(k:Nat):Option (Option S)->Z->Option (R (List S))
 |some (some .z),some p=>if k=0 then some (.ok [.d (.int p.1)] (some p)) else if k=1 then some (.ok [.d (.bl p.2)] (some p)) else none|_,_=>none
abbrev FT:=Bool->Nat->List S->M S
abbrev j40(F:FT):FT:=λ_=>F true
def J01(ρ:Env):List Nat->Option (List S)
 |[]=>some []
 |i::r=>match ρ[i]? with
  |some (some s)=>(J01 ρ r).map (s::·)|_=>none
def l32(o:Option (List S))(m:Env->M (List S)):M (List S):=λz=>match o with
 |none=>none
 |some ss=>match m (ss.map some) z with
  |some (.er c z1)=>if c < 12 then some (.ok [.fr [.int c]] z1) else none|_=>none
def fnAt(l:List (Str × Nat)):Option (Option S)->Option Nat
 |some (some (.fn n))=>l.lookup n|_=>none
def ev:FT->Ex->Env->M (List S)
 |F,.nil=>λ_=>M.ret []|F,.cons a r=>λρ=>M.bind (ev F a ρ) λx=>M.bind (M.of (one x)) λs=>M.bind (ev F r ρ) λy=>M.ret (s::y)
 |F,.var i=>λρ=>match ρ[i]? with
  |some (some s)=>M.ret [plS s]|_=>M.no
 |F,.con x=>λ_=>M.ret [.d x]|F,.gint _ i=>λ_=>M.ret [.d (.int i)]|F,.tup as=>λρ=>M.bind (ev F as ρ) λl=>M.bind (M.of (plA l)) λds=>if ds.length<=most then M.ret [.d (.tup ds)] else M.no|F,.lst as=>λρ=>M.bind (ev F as ρ) λl=>M.bind (M.of (plA l)) λds=>if ds.length<=most then M.ret [.fr ds] else M.no|F,.bin o a b=>λρ=>M.bind (ev F a ρ) λx=>M.bind (M.of (pl x)) λx=>M.bind (ev F b ρ) λy=>M.bind (M.of (pl y)) λy=>M.bind (M.of (B20 o x y)) λs=>M.ret [s]|F,.cmp o a b=>λρ=>M.bind (ev F a ρ) λx=>M.bind (M.of (pl x)) λx=>M.bind (ev F b ρ) λy=>M.bind (M.of (pl y)) λy=>M.bind (M.of (B90 o x y)) λb=>M.ret [.d (.bl b)]|F,.neg a=>λρ=>M.bind (ev F a ρ) λx=>M.bind (M.of ((pl x).bind asI)) λi=>M.ret [.d (.int (-i))]|F,.not a=>λρ=>M.bind (ev F a ρ) λx=>M.bind (M.of ((pl x).bind asB)) λb=>M.ret [.d (.bl !b)]|F,.and a b=>λρ=>M.bind (ev F a ρ) λx=>M.bind (M.of ((pl x).bind asB)) λc=>if c then M.bind (ev F b ρ) λy=>M.bind (M.of ((pl y).bind asB)) λc=>M.ret [.d (.bl c)] else M.ret [.d (.bl false)]|F,.or a b=>λρ=>M.bind (ev F a ρ) λx=>M.bind (M.of ((pl x).bind asB)) λc=>if c then M.ret [.d (.bl true)] else M.bind (ev F b ρ) λy=>M.bind (M.of ((pl y).bind asB)) λc=>M.ret [.d (.bl c)]|F,.orT a b=>λρ=>M.calm (M.bind (ev F a ρ) λx=>M.bind (M.of ((pl x).bind l22)) λl=>if l.isEmpty then M.bind (ev F b ρ) λy=>M.bind (M.of ((pl y).bind l22)) λl=>M.ret [.d (.tup l)] else M.ret [.d (.tup l)])|F,.ite c a b=>λρ=>M.bind (ev F c ρ) λx=>M.bind (M.of ((pl x).bind asB)) λc=>if c then ev F a ρ else ev F b ρ
 |F,.ch o o' a b c=>λρ=>M.bind (ev F a ρ) λx=>M.bind (M.of (pl x)) λx=>M.bind (ev F b ρ) λy=>M.bind (M.of (pl y)) λy=>M.bind (M.of (B90 o x y)) λk =>
   if k then M.bind (ev F c ρ) λw=>M.bind (M.of (pl w)) λw=>M.bind (M.of (B90 o' y w)) λk=>M.ret [.d (.bl k)] else M.ret [.d (.bl false)]
 |F,.bf f as=>λρ=>M.bind (ev F as ρ) λl=>M.bind (M.of (plA l)) λds=>M.bind (M.of (bfD f ds)) λs=>M.ret [s]|F,.isi t a=>λρ=>M.bind (ev F a ρ) λx=>M.bind (M.of (pl x)) λx=>M.ret [.d (.bl (e62 t x))]|F,.idx a i=>λρ=>M.bind (ev F a ρ) λx=>M.bind (M.of (pl x)) λx=>M.bind (ev F i ρ) λy=>M.bind (M.of (pl y)) λy=>M.bind (M.of (L40 x y)) λr=>M.ret [.d r]|F,.sl a lo hi=>λρ=>M.bind (ev F a ρ) λx=>M.bind (M.of (pl x)) λx=>M.bind (ev F lo ρ) λu=>M.bind (M.of (t81 u)) λu=>M.bind (ev F hi ρ) λv=>M.bind (M.of (t81 v)) λv=>M.bind (M.of (slD x u v)) λs=>M.ret [s]|F,.call f as=>λρ=>M.bind (ev F as ρ) λl=>M.bind (F false f (l.map plS)) λs=>M.ret [s]|F,.comp own capt p it src cond el=>λρ=>M.bind (ev F src ρ) λl=>M.bind (M.of ((plA l).bind (itD it))) λxs=>if xs.length<=most then M.bind (M.calm (turns (r60 (ev F cond) (ev F el) p (é own none++capt.map λi=>(ρ[i]?).getD none)) xs)) λys=>M.ret [.fr ys] else M.no|F,.zget i k=>λρ z=>t91 k ρ[i]? z|F,.lrng b as=>λρ=>M.bind (ev F as ρ) λl=>M.bind (M.of ((plA l).bind lrD)) λxs=>M.ret [lrS b xs]|F,.callv i l as=>λρ=>M.bind (M.of (fnAt l ρ[i]?)) λf=>M.bind (ev F as ρ) λm=>M.bind (F false f (m.map plS)) λs=>M.ret [s]|F,.refd capt a=>λρ=>l32 (J01 ρ capt) λρ'=>ev (j40 F) a ρ'
def R50(ρ:Env):Env:=ρ.map λo=>match o with
 |some .z=>none|o=>o
inductive Sm where
 |nil | seq (s r:Sm)
 |set (p:Pat) (e:Ex) | ret (e:Ex) | iff (c:Ex) (t e:Sm)
 |fr (p:Pat) (it:It) (src:Ex) (b:Sm) | whl (c:Ex) (b:Sm)
 |rais (c:Nat) | exp (e:Ex)
 |app (i:Nat) (e:Ex) | aug (o:Bi) (i:Nat) (e:Ex)
 |newz (i:Nat) (f:Nat) (as:Ex) | zset (i:Nat) (e:Ex) | apop (i j:Nat) (e:Ex)
 |frF (i:Nat) (n n':Str) (b:Sm)
inductive O where
 |nx (ρ:Env) | rt (s:S)
mutual
noncomputable def bare:D->Bool
 |.lst _=>false|.tup l=>j10 l|.dct=>false|_=>true
noncomputable def j10:List D->Bool
 |[]=>true|x::r=>bare x&&j10 r
end
def R60:S->Bool
 |.d x=>bare x|.fr xs=>j10 xs|_=>true
def Z20(ρ:Env):Env:=ρ.map λo=>o.map plS
def G30(b:Bool):Option S->Option S
 |some (.fr xs)=>some (if b then .fr xs else .d (.lst xs))|o=>o
theorem R70(b:Bool)(ρ:Env):ρ.map (G30 b)=if b then ρ else Z20 ρ:=by
 have h:∀ o:Option S,G30 b o=if b then o else o.map plS:=λo=>by
  match o with
  |some (.fr xs)=>cases b <;> rfl
  |some (.d _)=>cases b <;> rfl
  |some .z=>cases b <;> rfl
  |some (.fn _)=>cases b <;> rfl
  |none=>cases b <;> rfl
 rw[show G30 b=λo=>if b then o else o.map plS from funext h];cases b with
 |true=>exact map_id ρ|false=>rfl
def i50(s:S)(ρ:Env):Env:=ρ.map (G30 (R60 s))
def D80:Pat->S->Env->Option Env
 |p,.d x,ρ=>e70 p x ρ|.v i,s,ρ=>if i < ρ.length then some (ρ.set i (some s)) else none|_,_,_=>none
def X40(f:D->Env->M O):List D->Env->M O
 |[],ρ=>M.ret (.nx ρ)
 |x::r,ρ=>M.bind (f x ρ) λo=>match o with
  |.nx ρ=>X40 f r ρ|.rt s=>M.ret (.rt s)
def P41(c:Env->M (List S))(f:Env->M O):Nat->Env->M O
 |0,_=>M.no
 |n + 1,ρ=>M.bind (c ρ) λx=>M.bind (M.of ((pl x).bind asB)) λk=>if k then M.bind (f ρ) λo=>match o with
  |.nx ρ=>P41 c f n ρ|.rt s=>M.ret (.rt s)
  else M.ret (.nx ρ)
def ownAt(ρ:Env)(i:Nat):Option (List D):=match ρ[i]? with
 |some (some (.fr xs))=>some xs|_=>none
def I22(xs:List D)(i:Int)(y:D):Option (List D):=(ixN xs.length i).map λj=>xs.set j y
def W81:D->Bool
 |.tup l=>j10 l|.lst l=>j10 l|_=>true
def R80(l:List S):Bool:=match plA l with
 |some ds=>ds.all W81|none=>false
def noS:S->Option S
 |.z=>none|.fn _=>none|s=>some s
def W91:(it:It)->(e:Ex)->Option {i:Nat // it=.seq/\e=.cons (.var i) .nil}
 |.seq,.cons (.var i) .nil=>some ⟨i,rfl,rfl⟩|_,_=>none
def m61:List S->Bool
 |[]=>false|.d (.lst _)::_=>true|_::r=>m61 r
def R90(it:It)(e:Ex)(l:List S)(ρ:Env):Env:=match W91 it e with
 |some i=>ρ.set i.1 ((ρ[i.1]?.getD none).map plS)
 |none=>match m61 l with
  |true=>Z20 ρ|false=>ρ
def u01(it:It)(e:Ex)(l:List S)(ρ:Env):Env:=(R90 it e l ρ).map (G30 (R80 l))
abbrev e72:Nat:=20000
def u11(ρ:Env)(i j:Nat)(xs ys:List D)(k:Int):Option O :=
 if i≠j/\0<=k/\inR k=true/\xs.length < most then(ys[k.toNat]?).bind λy=>if bare y=true then some (.nx ((ρ.set j (some (.fr (ys.eraseIdx k.toNat)))).set i (some (.fr (xs++[y]))))) else none else none
def l42(F:FT)(i j:Nat)(e:Ex):Env->M O:=λρ=>M.bind (M.of (ownAt ρ i)) λxs=>M.bind (M.of (ownAt ρ j)) λys=>M.bind (ev F e ρ) λl=>M.bind (M.of ((pl l).bind asI)) λk=>M.bind (M.of (u11 ρ i j xs ys k)) λo=>M.ret o
def u21(tp:Bool)(ρ:Env)(i:Nat):List S->Option (R O)
 |[.fr [.int n,.bl b]]=>if tp then some (.ok (.nx ((R50 ρ).set i (some .z))) (some (n,b))) else none|_=>none
def u31(ρ:Env)(v:Int):Option (Option S)->Z->Option (R O)
 |some (some .z),some p=>some (.ok (.nx ρ) (some (v,p.2)))|_,_=>none
def X01(i:Nat)(f:Env->M O):List Str->Env->M O
 |[],ρ=>M.ret (.nx ρ)
 |n::r,ρ=>if i < ρ.length then M.bind (f (ρ.set i (some (.fn n)))) λo=>match o with
  |.nx ρ=>X01 i f r ρ|.rt s=>M.ret (.rt s)
  else M.no
def ex(F:FT)(tp:Bool):Sm->Env->M O
 |.nil=>λρ=>M.ret (.nx ρ)
 |.seq s r=>λρ=>M.bind (ex F tp s ρ) λo=>match o with
  |.nx ρ=>ex F tp r ρ|.rt s=>M.ret (.rt s)
 |.set p e=>λρ=>M.bind (ev F e ρ) λl=>M.bind (M.of (one l)) λs=>M.bind (M.of (D80 p s (i50 s ρ))) λρ=>M.ret (.nx ρ)
 |.ret e=>λρ=>match e with
  |.var i=>(match ρ[i]? with
   |some (some s)=>M.bind (M.of (noS s)) λs=>M.ret (.rt s)
   |_=>M.no)
  |e=>M.bind (ev F e ρ) λl=>M.bind (M.of ((one l).bind noS)) λs=>M.ret (.rt s)
 |.iff c t e=>λρ=>M.bind (ev F c ρ) λx=>M.bind (M.of ((pl x).bind asB)) λc=>if c then ex F tp t ρ else ex F tp e ρ|.fr p it src b=>λρ=>M.bind (ev F src ρ) λl=>M.bind (M.of ((plA l).bind (itD it))) λxs=>X40 (λx ρ=>M.bind (M.of (e70 p x ρ)) λρ=>ex F tp b ρ) xs (u01 it src l ρ)|.whl c b=>λρ=>P41 (ev F c) (ex F tp b) e72 ρ|.rais c=>λ_ z=>some (.er c z)|.exp e=>λρ=>M.bind (ev F e ρ) λl=>M.bind (M.of (one l)) λ_=>M.ret (.nx ρ)|.app i e=>λρ=>M.bind (M.of (ownAt ρ i)) λxs=>M.bind (ev F e ρ) λl=>M.bind (M.of (pl l)) λx=>if bare x=true/\xs.length < most then M.ret (.nx (ρ.set i (some (.fr (xs++[x]))))) else M.no|.aug o i e=>λρ=>M.bind (M.of ((ρ[i]?.getD none).bind plD)) λy=>M.bind (ev F e ρ) λl=>M.bind (M.of ((pl l).bind asI)) λx=>M.bind (M.of ((asI y).bind λy=>B20 o (.int y) (.int x))) λs=>M.bind (M.of (D80 (.v i) s (i50 s ρ))) λρ=>M.ret (.nx ρ)|.newz i f as=>λρ=>M.bind (ev F (.call f as) ρ) λl=>λ_=>u21 tp ρ i l|.zset i e=>λρ=>M.bind (ev F e ρ) λl=>M.bind (M.of ((pl l).bind asI)) λv=>λz=>u31 ρ v ρ[i]? z|.apop i j e=>λρ=>l42 F i j e ρ|.frF i n n' b=>λρ=>X01 i (ex F tp b) [n,n'] ρ
inductive Df where
 |code (ps ns:Nat) (b:Sm) | prim (f:List S->M S)
def L50:Z->Z->Z
 |none,_=>none|some _,z=>z
def start(ns:Nat)(l:List S):Env:=l.map some++é (ns - l.length) none
def run(F:FT):Df->List S->M S
 |.code ps ns b,l=>λz=>if l.length=ps/\ps<=ns then(match ex F z.isNone b (start ns (l.map plS)) z with
  |some (.ok (.nx _) z1)=>some (.ok (.d .non) (L50 z z1))|some (.ok (.rt s) z1)=>some (.ok s (L50 z z1))|some (.er c z1)=>some (.er c (L50 z z1))
  |none=>none) else none
 |.prim f,l=>f l
def a70(T:List Df):Nat->Nat->List S->M S
 |k + 3,f,l=>match T[f]? with
  |some d=>run (λb g m=>match b with | true=>a70 T k g m | false=>a70 T (k + 2) g m) d l
  |none=>M.no
 |_,_,_=>M.no
abbrev S00(T:List Df)(k:Nat):FT:=λb g m=>match b with | true=>a70 T (k - 2) g m | false=>a70 T k g m
theorem Z30(T:List Df)(k f:Nat)(l:List S):a70 T (k + 3) f l=match T[f]? with
  |some d=>run (S00 T (k + 2)) d l|none=>M.no:=rfl
end Q
namespace Q
open PySem L2 PySem.Spec PyProof.Rows
def q60(K:Â)(H:Hp)(a:Æ)(xs:List V):Prop:=Rd H a (.lst xs)∨∃ (its:Array Ã) (n:Nat),K.lookup a=some { cls:=.type "list",data:=.seq its n }/\its.size<=sizeLine/\Vals xs its.toList
theorem q60.of{K:Â}{H:Hp}{a:Æ}{xs:List V}(h:H a=some (.lst xs)):q60 K H a xs:=.inl (.inl h)
theorem q60.sq{K:Â}{H:Hp}{a:Æ}{xs:List V}(h:q60 K H a xs):SqL K H a xs:=by
 rcases h with h | ⟨its,n,h1,h2,h3⟩
 ·exact .inl h
 ·exact .inr ⟨_,its,n,h1,rfl,rfl,rfl,h2,h3⟩
theorem q60.same{K:Â}{H H':Hp}{a:Æ}{xs:List V}(h:q60 K H a xs)(e:a20 H H'):q60 K H' a xs:=by
 rcases h with (h | ⟨o,h⟩) | h
 ·exact .inl (.inl (e _ _ h))
 ·exact .inl (.inr ⟨o,e _ _ h⟩)
 ·exact .inr h
theorem q60.mem(I:Inv X pins σ H s)(h:q60 X.K H a xs):xs.length<=sizeLine/\∃ (its:List Ã) (n:Nat),Vals xs its/\xs.length=its.length/\s.heap.get? a=some { cls:=.type "list",data:=.seq its.toArray n }:=by
 rcases h with (h | ⟨o,h⟩) | ⟨its,n,h1,h2,h3⟩
 ·exact I.j02 h
 ·obtain⟨e,z,its,n,r,e2⟩:=I.hok a _ h;exact⟨z,its,n,r,r.length,e2⟩
 ·refine⟨by rw[h3.length,È6];exact h2,its.toList,n,h3,h3.length,?_⟩
  have:=I.kIn a _ h1;rw[Î4];exact this
mutual
def Hd(K:Â)(H:Hp):D->V->Prop
 |.non,v=>v=.non|.bl b,v=>v=.bl b|.int i,v=>v=.int i|.str x,v=>v=.str x|.tup ds,v=>∃ a xs,v=.ref a/\SqT K H a xs/\HdA K H ds xs|.lst ds,v=>∃ a xs,v=.ref a/\q60 K H a xs/\HdA K H ds xs|.dct,v=>∃ a kvs,v=.ref a/\H a=some (.dK kvs)
def HdA(K:Â)(H:Hp):List D->List V->Prop
 |[],xs=>xs=[]|d::ds,xs=>∃ x r,xs=x::r/\Hd K H d x/\HdA K H ds r
end
section
variable {K:Â}{H H':Hp}
mutual
theorem Hd.same(e:a20 H H'):∀ {d:D}{v:V},Hd K H d v->Hd K H' d v
 |.non,_,h=>by unfold Hd at h ⊢;exact h|.bl _,_,h=>by unfold Hd at h ⊢;exact h|.int _,_,h=>by unfold Hd at h ⊢;exact h|.str _,_,h=>by unfold Hd at h ⊢;exact h
 |.tup ds,_,h=>by
  unfold Hd at h ⊢;obtain⟨a,xs,rfl,h1,h2⟩:=h;exact⟨a,xs,rfl,e.sqT h1,HdA.same e h2⟩
 |.lst ds,_,h=>by
  unfold Hd at h ⊢;obtain⟨a,xs,rfl,h1,h2⟩:=h;exact⟨a,xs,rfl,h1.same e,HdA.same e h2⟩
 |.dct,_,h=>by
  unfold Hd at h ⊢;obtain⟨a,kvs,rfl,h1⟩:=h;exact⟨a,kvs,rfl,e _ _ h1⟩
theorem HdA.same(e:a20 H H'):∀ {ds:List D}{xs:List V},HdA K H ds xs->HdA K H' ds xs
 |[],_,h=>by unfold HdA at h ⊢;exact h
 |d::ds,_,h=>by
  unfold HdA at h ⊢;obtain⟨x,r,rfl,h1,h2⟩:=h;exact⟨x,r,rfl,Hd.same e h1,HdA.same e h2⟩
end
mutual
theorem Hd.has:∀ {d:D}{v:V},Hd K H d v->Has K H d v
 |.non,_,h=>by unfold Hd at h;unfold Has;exact h|.bl _,_,h=>by unfold Hd at h;unfold Has;exact h|.int _,_,h=>by unfold Hd at h;unfold Has;exact h|.str _,_,h=>by unfold Hd at h;unfold Has;exact h
 |.tup ds,_,h=>by
  unfold Hd at h;unfold Has;obtain⟨a,xs,rfl,h1,h2⟩:=h;exact⟨a,xs,rfl,h1,HdA.has h2⟩
 |.lst ds,_,h=>by
  unfold Hd at h;unfold Has;obtain⟨a,xs,rfl,h1,h2⟩:=h;exact⟨a,xs,rfl,h1.sq,HdA.has h2⟩
 |.dct,_,h=>by unfold Hd at h;unfold Has;exact h
theorem HdA.has:∀ {ds:List D}{xs:List V},HdA K H ds xs->H00 K H ds xs
 |[],_,h=>by unfold HdA at h;unfold H00;exact h
 |d::ds,_,h=>by
  unfold HdA at h;unfold H00;obtain⟨x,r,rfl,h1,h2⟩:=h;exact⟨x,r,rfl,Hd.has h1,HdA.has h2⟩
end
theorem HdA.nil:HdA K H [] []:=by unfold HdA;rfl
theorem HdA.cons(h:Hd K H d x)(r:HdA K H ds xs):HdA K H (d::ds) (x::xs):=by unfold HdA;exact⟨x,xs,rfl,h,r⟩
theorem HdA.c00(h:HdA K H (d::ds) xs):∃ x r,xs=x::r/\Hd K H d x/\HdA K H ds r:=by unfold HdA at h;exact h
theorem HdA.f20(h:HdA K H [] xs):xs=[]:=by unfold HdA at h;exact h
theorem HdA.length:∀ {ds:List D}{xs:List V},HdA K H ds xs->xs.length=ds.length
 |[],_,h=>by rw[h.f20];rfl
 |d::ds,_,h=>by
  obtain⟨x,r,rfl,_,h2⟩:=h.c00;simp[h2.length]
theorem HdA.get:∀ {ds:List D}{xs:List V}{i:Nat}{d:D},HdA K H ds xs->ds[i]?=some d->∃ x,xs[i]?=some x/\Hd K H d x
 |[],_,_,_,_,e=>by simp at e
 |d::ds,_,i,d',h,e=>by
  obtain⟨y,r,rfl,h1,h2⟩:=h.c00;cases i with
  |zero=>simp at e;subst e;exact⟨y,rfl,h1⟩
  |succ i =>
   obtain⟨x',e1,e2⟩:=HdA.get (i:=i) h2 (by simpa using e)
   exact⟨x',by simpa using e1,e2⟩
theorem HdA.append:∀ {ds es:List D}{xs ys:List V},HdA K H ds xs->HdA K H es ys->HdA K H (ds++es) (xs++ys)
 |[],_,_,_,h,g=>by rw[h.f20];exact g
 |d::ds,_,_,_,h,g=>by
  obtain⟨x,r,rfl,h1,h2⟩:=h.c00;exact .cons h1 (HdA.append h2 g)
theorem HdA.take:∀ {ds:List D}{xs:List V} (n:Nat),HdA K H ds xs->HdA K H (ds.take n) (xs.take n)
 |ds,xs,0,_=>by simp;exact .nil|[],_,n + 1,h=>by rw[h.f20];simp;exact .nil
 |d::ds,_,n + 1,h=>by
  obtain⟨x,r,rfl,h1,h2⟩:=h.c00;exact .cons h1 (HdA.take n h2)
theorem HdA.drop:∀ {ds:List D}{xs:List V} (n:Nat),HdA K H ds xs->HdA K H (ds.drop n) (xs.drop n)
 |ds,xs,0,h=>by simpa using h|[],_,n + 1,h=>by rw[h.f20];simp;exact .nil
 |d::ds,_,n + 1,h=>by
  obtain⟨x,r,rfl,h1,h2⟩:=h.c00;exact HdA.drop n h2
theorem HdA.reverse:∀ {ds:List D}{xs:List V},HdA K H ds xs->HdA K H ds.reverse xs.reverse
 |[],_,h=>by rw[h.f20];simp;exact .nil
 |d::ds,_,h=>by
  obtain⟨x,r,rfl,h1,h2⟩:=h.c00;rw[Ò6,Ò6];exact(HdA.reverse h2).append (.cons h1 .nil)
theorem HdA.rep(h:HdA K H ds xs):∀ n:Nat,HdA K H (é n ds).flatten (é n xs).flatten
 |0=>by simp;exact .nil|n + 1=>by rw[Å9,Å9,Ê3,Ê3];exact h.append (h.rep n)
theorem HdA.set:∀ {ds:List D}{xs:List V}{d:D}{x:V} (i:Nat),HdA K H ds xs->Hd K H d x->HdA K H (ds.set i d) (xs.set i x)
 |[],_,_,_,_,h,_=>by rw[h.f20];simp;exact .nil
 |e::ds,_,d,x,i,h,g=>by
  obtain⟨y,r,rfl,h1,h2⟩:=h.c00;cases i with
  |zero=>exact .cons g h2|succ i=>exact .cons h1 (HdA.set i h2 g)
theorem HdA.ints:∀ ns:List Int,HdA K H (ns.map D.int) (ns.map V.int)
 |[]=>.nil|n::r=>.cons (by unfold Hd;rfl) (HdA.ints r)
theorem Hd.i90(h:Hd K H (.int i) v):v=.int i:=by unfold Hd at h;exact h
theorem Hd.bl_(h:Hd K H (.bl b) v):v=.bl b:=by unfold Hd at h;exact h
theorem Hd.u62(h:Hd K H .non v):v=.non:=by unfold Hd at h;exact h
theorem Hd.z42{x:Str}{v:V}(h:Hd K H (.str x) v):v=.str x:=by unfold Hd at h;exact h
theorem Hd.D90(h:Hd K H (.tup ds) v):∃ a xs,v=.ref a/\SqT K H a xs/\HdA K H ds xs:=by unfold Hd at h;exact h
theorem Hd.f21(h:Hd K H (.lst ds) v):∃ a xs,v=.ref a/\q60 K H a xs/\HdA K H ds xs:=by unfold Hd at h;exact h
theorem Hd.int:Hd K H (.int i) (.int i):=by unfold Hd;rfl
theorem Hd.bl:Hd K H (.bl b) (.bl b):=by unfold Hd;rfl
theorem Hd.non:Hd K H .non .non:=by unfold Hd;rfl
theorem Hd.str{x:Str}:Hd K H (.str x) (.str x):=by unfold Hd;rfl
theorem Hd.tup(h:SqT K H a xs)(r:HdA K H ds xs):Hd K H (.tup ds) (.ref a):=by unfold Hd;exact⟨a,xs,rfl,h,r⟩
theorem Hd.lst(h:H a=some (.lst xs))(r:HdA K H ds xs):Hd K H (.lst ds) (.ref a):=by unfold Hd;exact⟨a,xs,rfl,q60.of h,r⟩
end
def noT(H:Hp):Hp:=λb=>match H b with
 |some (.tbl _)=>none|o=>o
theorem S10(h:noT H b=some o):H b=some o/\∀ ps,o≠.tbl ps:=by
 unfold noT at h;split at h
 ·cases h
 ·rename_i n;exact⟨h,λps e=>n ps (by rw[h,e])⟩
theorem Z40(h:H b=some o)(n:∀ ps,o≠.tbl ps):noT H b=some o:=by
 unfold noT;split
 ·rename_i ps e;rw[h] at e;cases e;exact absurd rfl (n ps)
 ·exact h
theorem C00(H:Hp):a20 (noT H) H:=λ_ _ h=>(S10 h).1
theorem f31(e:a20 H H'):a20 (noT H) (noT H'):=λb o h=>Z40 (e b o (S10 h).1) (S10 h).2
def hz(zA:Option Æ)(H:Hp):Hp:=match zA with
 |some a=>hide a (noT H)|none=>noT H
class Tb where
 tb:List (Addr × Str)
variable [TB:Tb]
def zAt(zA:Option Æ)(z:Z)(H:Hp):Prop:=match zA,z with
 |some a,some (n,b)=>H a=some (.lst [.int n,.bl b])|none,none=>True|_,_=>False
structure d50(zA:Option Addr)(z:Z)(H:Hp):Prop where
 zat:zAt zA z H
 tab:∀ p∈TB.tb,Tab H p.1 p.2
theorem a30(zA:Option Æ)(H:Hp):a20 (hz zA H) H:=by
 cases zA with
 |none=>exact C00 H|some a=>exact a20.trans (e50 a _) (C00 H)
theorem i60(e:a20 H H'):a20 (hz zA H) (hz zA H'):=by
 cases zA with
 |none=>exact f31 e|some a=>exact D30 λb o _ h=>f31 e b o h
theorem d10(h:H b=some o)(n:zA≠some b)(ht:∀ ps,o≠.tbl ps:=by exact λ_ h=>nomatch h):hz zA H b=some o:=by
 cases zA with
 |none=>exact Z40 h ht|some a=>exact K60 (Z40 h ht) λe=>n (by rw[e])
theorem o20(h:hz zA H b=some o):H b=some o/\zA≠some b:=by
 cases zA with
 |none=>exact⟨C00 H b o h,λe=>nomatch e⟩
 |some a =>
  refine⟨C00 H b o (e50 a _ b o h),λe=>?_⟩;cases e;have:hide b (noT H) b=some o:=h;unfold hide at this;rw[if_pos rfl] at this;cases this
theorem s20(h:hz zA H b=some o):∀ ps,o≠.tbl ps:=by
 cases zA with
 |none=>exact(S10 h).2|some a=>exact(S10 (e50 a _ b o h)).2
structure Ext(zA:Option Addr)(H H':Hp):Prop where
 same:a20 (hz zA H) (hz zA H')
 tbl:∀ b ps,H b=some (.tbl ps)->∃ qs,H' b=some (.tbl qs)
instance {zA:Option Æ}{H H':Hp}:CoeFun (Ext zA H H') (λ_=>∀ b o,hz zA H b=some o->hz zA H' b=some o):=⟨λx=>x.same⟩
instance {zA:Option Æ}{H H':Hp}:CoeOut (Ext zA H H') (a20 (hz zA H) (hz zA H')):=⟨λx=>x.same⟩
theorem Ext.refl:Ext zA H H:=⟨a20.refl _,λb ps h=>⟨ps,h⟩⟩
theorem Ext.trans(a:Ext zA H H1)(b:Ext zA H1 H2):Ext zA H H2:=⟨a20.trans a.same b.same,λc ps h=>let ⟨qs,h1⟩:=a.tbl c ps h;b.tbl c qs h1⟩
theorem Ext.of(e:a20 H H'):Ext zA H H':=⟨i60 e,λb ps h=>⟨ps,e b _ h⟩⟩
theorem Ext.at(e:Ext zA H H')(h:H a=some o)(n:zA≠some a)(ht:∀ ps,o≠.tbl ps:=by exact λ_ h=>nomatch h):H' a=some o:=(o20 (e.same a o (d10 h n ht))).1
theorem Ext.free(e:Ext zA H H')(h:H' a=none)(n:zA≠some a):H a=none:=by
 cases q:H a with
 |none=>rfl
 |some o =>
  by_cases ht:∃ ps,o=.tbl ps
  ·obtain⟨ps,rfl⟩:=ht;obtain⟨qs,q'⟩:=e.tbl a ps q;rw[q'] at h;cases h
  ·rw[e.at q n λps z=>ht ⟨ps,z⟩] at h;cases h
theorem zAt.same(h:zAt zA z H)(e:a20 H H'):zAt zA z H':=by
 cases zA with
 |none=>cases z with
  |none=>trivial|some _=>exact h.elim
 |some a=>cases z with
  |none=>exact h.elim|some p=>exact e _ _ h
theorem d50.same(h:d50 zA z H)(e:a20 H H'):d50 zA z H':=⟨h.zat.same e,λp hp=>(h.tab p hp).same e⟩
theorem Tab.upd{H:Hp}{P a:Æ}{q:Str}{xs:List V}{o:HO}(t:Tab H P q)(h:H a=some (.lst xs)):Tab (upd H a o) P q:=by
 obtain⟨ps,e,tr,k⟩:=t;have ne:∀ {b:Æ}{u:HO},H b=some u->(∀ l,u≠.lst l)->b≠a:=λ{b u} e1 e2 z=>by
  subst z;rw[h] at e1;cases e1;exact e2 _ rfl
 refine⟨ps,by rw[a40 (ne e λ_ z=>nomatch z)];exact e,tr,λpos c hc=>?_⟩
 obtain⟨c',e1,e2⟩:=k pos c hc;exact⟨c',e1,by rw[a40 (ne e2 λ_ z=>nomatch z)];exact e2⟩
theorem d50.X11{K:Â}{zA:Option Æ}{z:Z}{H:Hp}(h:d50 zA z H){a:Æ}{xs:List V}(t:SqT K H a xs):SqT K (hz zA H) a xs:=by
 have h:=h.zat;rcases t with (t | ⟨o,t⟩) | t
 ·refine .inl (.inl (d10 t λe=>?_));subst e;cases z with
  |none=>exact h.elim
  |some p =>
   have h':H a=some (.lst [.int p.1,.bl p.2]):=h;rw[t] at h';cases h'
 ·refine .inl (.inr ⟨o,d10 t λe=>?_⟩);subst e;cases z with
  |none=>exact h.elim
  |some p =>
   have h':H a=some (.lst [.int p.1,.bl p.2]):=h;rw[t] at h';cases h'
 ·exact .inr t
theorem d50.f41(h:d50 zA z H)(n:H a=none):zA≠some a:=λe=>by
 have h:=h.zat;subst e;cases z with
 |none=>exact h.elim
 |some p =>
  have h':H a=some (.lst [.int p.1,.bl p.2]):=h;rw[n] at h';cases h'
def FnK(K:Â)(n:Str)(v:V):Prop:=∃ a,v=.ref a/\È9 K Ý n=some (some (.ref a))
def RvS(K:Â)(zA:Option Æ)(H0 H:Hp):S->V->Prop
 |.d x,v=>Hd K (hz zA H) x v|.fr xs,v=>∃ a ys,v=.ref a/\H0 a=none/\zA≠some a/\H a=some (.lst ys)/\HdA K (hide a (hz zA H)) xs ys|.z,v=>∃ a,zA=some a/\v=.ref a|.fn n,v=>FnK K n v
def RvP(K:Â)(zA:Option Æ)(H:Hp):S->V->Prop
 |.d x,v=>Hd K (hz zA H) x v|.fr xs,v=>Hd K (hz zA H) (.lst xs) v|.z,v=>∃ a,zA=some a/\v=.ref a|.fn n,v=>FnK K n v
section
variable {K:Â}{zA:Option Æ}{H0 H H':Hp}
theorem RvS.pl{s:S}{v:V}(h:RvS K zA H0 H s v):RvP K zA H s v:=by
 cases s with
 |d x=>exact h|z=>exact h|fn n=>exact h
 |fr xs =>
  obtain⟨a,ys,rfl,_,h2,h3,h4⟩:=h;exact Hd.lst (d10 h3 h2) (h4.same (e50 a _))
theorem RvP.plS{s:S}{v:V}(h:RvP K zA H s v):RvP K zA H (plS s) v:=by cases s <;> exact h
theorem RvP.mono{s:S}{v:V}(h:RvP K zA H s v)(e:Ext zA H H'):RvP K zA H' s v:=by
 cases s with
 |d x=>exact Hd.same e h|z=>exact h|fn n=>exact h|fr xs=>exact Hd.same e h
theorem RvS.mono{s:S}{v:V}(h:RvS K zA H0 H s v)(e:Ext zA H H'):RvS K zA H0 H' s v:=by
 cases s with
 |d x=>exact Hd.same e h|z=>exact h|fn n=>exact h
 |fr xs =>
  obtain⟨a,ys,rfl,h1,h2,h3,h4⟩:=h;exact⟨a,ys,rfl,h1,h2,e.at h3 h2,h4.same (D30 λb o _ q=>e b o q)⟩
theorem RvS.from{H1:Hp}{s:S}{v:V}(h:RvS K zA H1 H s v)(e:Ext zA H0 H1):RvS K zA H0 H s v:=by
 cases s with
 |d x=>exact h|z=>exact h|fn n=>exact h
 |fr xs =>
  obtain⟨a,ys,rfl,h1,h2,h3⟩:=h;exact⟨a,ys,rfl,e.free h1 h2,h2,h3⟩
theorem RvP.d_{s:S}{v:V}{x:D}(h:RvP K zA H s v)(e:plD s=some x):Hd K (hz zA H) x v:=by
 cases s with
 |d y=>cases e;exact h
 |fr xs=>cases e;exact h
 |_=>cases e
end
abbrev RvA(K:Â)(zA:Option Æ)(H:Hp):List S->List V->Prop:=Ä5 (RvP K zA H)
theorem RvA.mono{K:Â}{zA:Option Æ}{H H':Hp}{l:List S}{vs:List V}(h:RvA K zA H l vs)(e:Ext zA H H'):RvA K zA H' l vs:=Ä5.S51 h λ_ _ q=>q.mono e
theorem RvA.plS{K:Â}{zA:Option Æ}{H:Hp}:∀ {l:List S}{vs:List V},RvA K zA H l vs->RvA K zA H (l.map plS) vs
 |_,_,.nil=>.nil|_,_,.cons r t=>.cons r.plS (RvA.plS t)
theorem RvA.ds{K:Â}{zA:Option Æ}{H:Hp}:∀ {l:List S}{vs:List V}{ds:List D},RvA K zA H l vs->plA l=some ds->HdA K (hz zA H) ds vs
 |_,_,_,.nil,e=>by cases e;exact .nil
 |.d x::r,_,_,.cons h t,e=>by
  simp only[plA,Ó1] at e;obtain⟨l,e,rfl⟩:=e;exact .cons h (RvA.ds t e)
 |.fr x::r,_,_,.cons h t,e=>by
  simp only[plA,Ó1] at e;obtain⟨l,e,rfl⟩:=e;exact .cons h (RvA.ds t e)
 |.z::r,_,_,.cons h t,e=>by simp[plA] at e|.fn _::r,_,_,.cons h t,e=>by simp[plA] at e
theorem g60(h:pl l=some x):∃ s,l=[s]/\plD s=some x:=by
 unfold pl at h;split at h
 ·exact⟨_,rfl,h⟩
 ·exact⟨_,rfl,h⟩
 ·cases h
theorem M.bind_some{α β:Type}{m:M α}{f:α->M β}{z:Z}{r:R β}(h:M.bind m f z=some r):(∃ a z1,m z=some (.ok a z1)/\f a z1=some r)∨(∃ c z1,m z=some (.er c z1)/\r=.er c z1):=by
 unfold M.bind at h;split at h
 ·exact .inl ⟨_,_,by assumption,h⟩
 ·cases h;exact .inr ⟨_,_,by assumption,rfl⟩
 ·cases h
theorem M.a10{α β:Type}{o:Option α}{f:α->M β}{z:Z}{r:R β}(h:M.bind (M.of o) f z=some r):∃ a,o=some a/\f a z=some r:=by
 cases o with
 |none=>cases h
 |some a=>exact⟨a,rfl,h⟩
end Q
set_option exponentiation.threshold 5000
namespace Q
open PySem L2 PySem.Spec PyProof.Rows
variable [TB:Tb]
section
variable {K:Â}{zA:Option Æ}{z:Z}{H:Hp}
theorem J11(hp:H p=none):a20 (hz zA H) (hide p (hz zA (upd H p o))):=λb u e=>by
 obtain⟨e1,e2⟩:=o20 e;have hb:b≠p:=λq=>by subst q;rw[hp] at e1;cases e1
 exact K60 (d10 (by rw[a40 hb];exact e1) e2 (s20 e)) hb
theorem h30:RvS K zA H0 H (.d (.int i)) (.int i):=Hd.int (K:=K) (H:=hz zA H)
theorem j20:RvS K zA H0 H (.d (.bl b)) (.bl b):=Hd.bl (K:=K) (H:=hz zA H)
theorem D41(h:Hd K (hz zA H) x v):RvS K zA H0 H (.d x) v:=h
theorem s30(st:d50 zA z H)(h:HdA K (hz zA H) xs ys)(hp:H p=none):RvS K zA H (upd H p (.lst ys)) (.fr xs) (.ref p) :=
 ⟨p,ys,rfl,hp,st.f41 hp,a90,h.same (J11 hp)⟩
theorem tupQ(st:d50 zA z H)(h:HdA K (hz zA H) xs ys)(q:∀ v H',a20 H H'->RvS K zA H H' (.d (.tup xs)) v->Q v H'):H21 K H ys Q :=
 λp H' sm hq=>q _ _ sm (D41 (Hd.tup ((st.same sm).X11 hq) (h.same (i60 sm))))
end
def rD2(K:Â)(f:D->D->Option S):R2:=λx y H Q=>∃ zA z dx dy s,d50 zA z H/\Hd K (hz zA H) dx x/\Hd K (hz zA H) dy y/\f dx dy=some s/\∀ v H',a20 H H'->RvS K zA H H' s v->Q v H'
def rDn(K:Â)(f:List D->Option S):List V->Hp->VK->Prop:=λxs H Q=>∃ zA z ds s,d50 zA z H/\HdA K (hz zA H) ds xs/\f ds=some s/\∀ v H',a20 H H'->RvS K zA H H' s v->Q v H'
section
variable {X:Cx}
theorem bits_le(h:k.natAbs < H20):Û5 k<=4000:=by
 unfold Û5;split
 ·exact Å8 _
 ·have hn:k.natAbs < 2 ^ 4000:=h;have:k.natAbs.log2 < 4000:=by
   rcases Nat.eq_zero_or_pos k.natAbs with h0 | hp
   ·rw[h0];decide
   ·exact(Nat.log2_lt (Î5 hp)).mpr hn
  omega
theorem P51(hi:i.natAbs < H20)(hj:j.natAbs < H20):IntMulOk i j:=by
 have h1:=bits_le hi;have h2:=bits_le hj;unfold IntMulOk;intro h;rw[Á] at h;have h3:=h.2;unfold Ä3.Int.intTooBig at h3;simp only[decide_eq_true_eq] at h3;have:(8000:Nat) < bitsLine:=by decide
 omega
theorem u41(hj:j.natAbs < H20):Ä3.divisionGoesByPylong i j=false:=by
 refine PyProof.noPylong_of_log2 ?_;rcases Nat.eq_zero_or_pos j.natAbs with h0 | hp
 ·rw[h0];decide
 ·have:j.natAbs.log2 < 4000:=(Nat.log2_lt (Î5 hp)).mpr hj;omega
theorem e80(h:n<=most):n<=sizeLine:=Þ h (by rw[Á4];decide)
def z52(K:Â):R2:=λx y H Q=>∃ l b xs zs,x=.ref l/\y=.ref b/\q60 K H l xs/\q60 K H b zs/\xs.length + zs.length<=sizeLine/\∀ p,H p=none->Q (.ref p) (upd H p (.lst (xs++zs)))
def z62(K:Â):R2:=λx y H Q=>∃ l k xs,x=.ref l/\y=.int k/\q60 K H l xs/\-(2 ^ 63)<=k/\k < 2 ^ 63/\xs.length * k.toNat<=sizeLine/\∀ p,H p=none->Q (.ref p) (upd H p (.lst (é k.toNat xs).flatten))
theorem X21:OpR X (Ã1 .Add) (z52 X.K):=by
 intro pins s σ H x y v u Q I rx ry h;obtain⟨l,b,xs,zs,rfl,rfl,hH,hB,hz,q⟩:=h;cases rx;cases ry;obtain⟨z,its,n,r,hl,e⟩:=hH.mem I;obtain⟨z2,its2,n2,r2,hl2,e2⟩:=hB.mem I;refine PySem.P.add_list e e2 ?_ (by rw[Õ,Õ];omega)
 have ea:its.toArray++its2.toArray=(its++its2).toArray:=by simp
 rw[ea];exact⟨.ref _,_,I.y02 (t':=s.toks) (r.append r2) (by rw[Â0];omega),rfl,q _ I.fresh⟩
theorem X31:OpR X (Ã1 .Mult) (z62 X.K):=by
 intro pins s σ H x y v u Q I rx ry h;obtain⟨l,k,xs,rfl,rfl,hH,h1,h2,hz,q⟩:=h;cases rx;obtain⟨t,rfl⟩:=ry;obtain⟨z,its,n,r,hl,e⟩:=hH.mem I;have hlen:its.toArray.size * k.toNat<=sizeLine:=by rw[Õ,← hl];exact hz
 have hcap:¬ its.toArray.size * k.toNat > (2 ^ 63 - 1) / 8:=by
  have:(sizeLine:Nat)<=(2 ^ 63 - 1) / 8:=by decide
  omega
 have hfit:¬ (!Ä3.List.listFitsIndex k)=true:=by
  rw[fitsIndex_both h1 h2];exact Ò
 have hlong:¬ Ë8 (its.toArray.size * k.toNat)=true:=by
  rw[E91 hlen];exact Ò
 have hnew:foldl (λx1 x2=>x1++x2) #[] (é (if its.toArray.isEmpty=true then 0 else k.toNat) its.toArray)=(é k.toNat its).flatten.toArray:=by
  have f0:∀ m:Nat,foldl (λx1 x2=>x1++x2) #[] (é m its.toArray)=(é m its).flatten.toArray:=λm=>by
   have:=foldl_rep its m [];rw[É1] at this;exact this
  rw[f0];cases its with
  |nil=>simp|cons a r'=>rw[if_neg (by simp)]
 refine wpAny_binaryOp_repeat_ref (T:="list") (U:="int") (-0) ⟨_,e,rfl⟩ (λs'=>Ø7 s' k t) noFill_list_mul F.fills_int_mul Ó7 repeat_list F.slot_int_index.lookup
  (Æ9 Ó7 (Ø7 s k t) F.entry_int_rmul (F.args_int_rmul_2 _ _) (int___rmul___int_list k t l its.toArray n)
   ⟨e,rfl,⟨_,e,rfl⟩,Æ9 F.slot_list_mul ⟨_,e,rfl⟩ F.entry_list_mul (F.args_list_mul_2 _ _) (AutoListH.list___mul___list_int_3 l its.toArray n k t hfit hcap hlong) ⟨e,?_⟩⟩)
 rw[hnew];exact⟨.ref _,_,I.y02 (t':=s.toks) (r.rep k.toNat) (by rw[len_rep,Ö6];exact hz),rfl,q _ I.fresh⟩
theorem X41:OpR X (Ã1 .Add) (rD2 X.K (B20 .add)):=by
 intro pins s σ H x y v u Q I rx ry h;obtain⟨zA,z,dx,dy,w,st,hx,hy,e,q⟩:=h;cases dx with
 |int i =>
  cases dy with
  |int j =>
   cases e;cases hx.i90;cases hy.i90;exact h62 pins s σ H _ _ v u Q I rx ry ⟨i,j,rfl,rfl,q _ _ (a20.refl H) h30⟩
  |_=>cases e
 |tup a =>
  cases dy with
  |tup b =>
   obtain⟨hl,e⟩:=e60 e;cases e;obtain⟨p,xs,rfl,h1,h2⟩:=hx.D90;obtain⟨p',ys,rfl,h3,h4⟩:=hy.D90;exact V51 pins s σ H _ _ v u Q I rx ry ⟨p,p',xs,ys,rfl,rfl,(a30 zA H).sqT h1,(a30 zA H).sqT h3,e80 (by rw[h2.length,h4.length];exact hl),tupQ st (h2.append h4) q⟩
  |_=>cases e
 |lst a =>
  cases dy with
  |lst b =>
   obtain⟨hl,e⟩:=e60 e;cases e;obtain⟨p,xs,rfl,h1,h2⟩:=hx.f21;obtain⟨p',ys,rfl,h3,h4⟩:=hy.f21;exact X21 pins s σ H _ _ v u Q I rx ry ⟨p,p',xs,ys,rfl,rfl,h1.same (a30 zA H),h3.same (a30 zA H),e80 (by rw[h2.length,h4.length];exact hl),λr hr=>q _ _ (a20.new _ hr) (s30 st (h2.append h4) hr)⟩
  |_=>cases e
 |_=>cases e
theorem X51:OpR X (Ã1 .Sub) (rD2 X.K (B20 .sub)):=by
 intro pins s σ H x y v u Q I rx ry h;obtain⟨zA,z,dx,dy,w,st,hx,hy,e,q⟩:=h;cases dx with
 |int i =>
  cases dy with
  |int j =>
   cases e;cases hx.i90;cases hy.i90;exact h72 pins s σ H _ _ v u Q I rx ry ⟨i,j,rfl,rfl,q _ _ (a20.refl H) h30⟩
  |_=>cases e
 |_=>cases e
theorem X61:OpR X (Ã1 .Mult) (rD2 X.K (B20 .mul)):=by
 intro pins s σ H x y v u Q I rx ry h;obtain⟨zA,z,dx,dy,w,st,hx,hy,e,q⟩:=h;cases dx with
 |int i =>
  cases dy with
  |int j =>
   obtain⟨hl,e⟩:=e60 e;cases e;cases hx.i90;cases hy.i90;obtain⟨t,rfl⟩:=rx;obtain⟨t',rfl⟩:=ry;exact mul_int ⟨.int (i * j),H,I.tok _,⟨_,rfl⟩,q _ _ (a20.refl H) h30⟩ (P51 hl.1 hl.2)
  |_=>cases e
 |tup a =>
  cases dy with
  |int j =>
   obtain⟨hl,e⟩:=e60 e;cases e;cases hy.i90;obtain⟨p,xs,rfl,h1,h2⟩:=hx.D90;exact V61 pins s σ H _ _ v u Q I rx ry ⟨p,j,xs,rfl,rfl,(a30 zA H).sqT h1,hl.1,hl.2.2,e80 (by rw[h2.length];exact hl.2.1),tupQ st (h2.rep _) q⟩
  |_=>cases e
 |lst a =>
  cases dy with
  |int j =>
   obtain⟨hl,e⟩:=e60 e;cases e;cases hy.i90;obtain⟨p,xs,rfl,h1,h2⟩:=hx.f21;exact X31 pins s σ H _ _ v u Q I rx ry ⟨p,j,xs,rfl,rfl,h1.same (a30 zA H),by omega,by omega,e80 (by rw[h2.length,Ö6];exact hl.2.1),λr hr=>q _ _ (a20.new _ hr) (s30 st (h2.rep _) hr)⟩
  |_=>cases e
 |_=>cases e
theorem J21:OpR X (Ã1 .FloorDiv) (rD2 X.K (B20 .fdiv)):=by
 intro pins s σ H x y v u Q I rx ry h;obtain⟨zA,z,dx,dy,w,st,hx,hy,e,q⟩:=h;cases dx with
 |int i =>
  cases dy with
  |int j =>
   obtain⟨hl,e⟩:=e60 e;cases e;cases hx.i90;cases hy.i90;obtain⟨t,rfl⟩:=rx;obtain⟨t',rfl⟩:=ry;refine floordiv_int ∅ ⟨.int (i / j),H,I.tok _,⟨s.toks,?_⟩,q _ _ (a20.refl H) h30⟩ (.inl (u41 hl.2))
   rw[Int.fdiv_eq_ediv_of_nonneg _ ∅]
  |_=>cases e
 |_=>cases e
theorem X71:OpR X (Ã1 .Mod) (rD2 X.K (B20 .mod)):=by
 intro pins s σ H x y v u Q I rx ry h;obtain⟨zA,z,dx,dy,w,st,hx,hy,e,q⟩:=h;cases dx with
 |int i =>
  cases dy with
  |int j =>
   obtain⟨hl,e⟩:=e60 e;cases e;cases hx.i90;cases hy.i90;exact h82 pins s σ H _ _ v u Q I rx ry ⟨i,j,rfl,rfl,hl,q _ _ (a20.refl H) h30⟩
  |_=>cases e
 |_=>cases e
theorem X81:OpR X (Ã1 .Pow) (rD2 X.K (B20 .pow)):=by
 intro pins s σ H x y v u Q I rx ry h;obtain⟨zA,z,dx,dy,w,st,hx,hy,e,q⟩:=h;cases dx with
 |int i =>
  cases dy with
  |int j =>
   obtain⟨hl,e⟩:=e60 e;cases e;cases hx.i90;cases hy.i90;exact h92 pins s σ H _ _ v u Q I rx ry ⟨i,j,rfl,rfl,⟨hl.1,by omega,hl.2.2⟩,q _ _ (a20.refl H) h30⟩
  |_=>cases e
 |_=>cases e
def opB:Bi->Í0
 |.add=>.Add | .sub=>.Sub | .mul=>.Mult | .fdiv=>.FloorDiv | .mod=>.Mod | .pow=>.Pow
theorem opD(o:Bi):OpR X (Ã1 (opB o)) (rD2 X.K (B20 o)):=by
 cases o
 ·exact X41
 ·exact X51
 ·exact X61
 ·exact J21
 ·exact X71
 ·exact X81
mutual
noncomputable def toP:D->PyData
 |.non=>.none|.bl b=>.bool b|.int i=>.int i|.str x=>.str x|.tup l=>.tuple (O80 l)|.lst l=>.list (O80 l)|.dct=>.none
noncomputable def O80:List D->List PyData
 |[]=>[]|x::r=>toP x::O80 r
end
end
end Q
namespace Q
open PySem L2 PySem.Spec PyProof.Rows
variable [TB:Tb]
mutual
theorem S20:∀ a b:D,t30 a=true->t30 b=true->Ù6 (toP a) (toP b)=eqD a b
 |.non,b,_,h=>by cases b <;> first | rfl | (simp[t30] at h)
 |.bl _,b,_,h=>by cases b <;> first | rfl | (simp[t30] at h)
 |.int _,b,_,h=>by cases b <;> first | rfl | (simp[t30] at h)
 |.str _,b,_,h=>by cases b <;> first | rfl | (simp[t30] at h)
 |.tup l,b,ha,h=>by
  cases b with
  |tup q =>
   exact Z50 l q (by simpa [t30] using ha) (by simpa [t30] using h)
  |dct=>simp[t30] at h|_=>rfl
 |.lst l,b,ha,h=>by
  cases b with
  |lst q =>
   exact Z50 l q (by simpa [t30] using ha) (by simpa [t30] using h)
  |dct=>simp[t30] at h|_=>rfl
 |.dct,_,h,_=>by simp[t30] at h
theorem Z50:∀ a b:List D,e10 a=true->e10 b=true->PyData.eqvAll (O80 a) (O80 b)=l12 a b
 |[],[],_,_=>rfl|[],_::_,_,_=>rfl|_::_,[],_,_=>rfl
 |x::r,y::q,ha,hb=>by
  simp only[e10,Á] at ha hb;simp only[O80,PyData.eqvAll,l12];rw[S20 x y ha.1 hb.1,Z50 r q ha.2 hb.2]
end
mutual
theorem H30:∀ a:D,t30 a=true->(toP a).canLay0=true
 |.non,_=>rfl|.bl _,_=>rfl|.int _,_=>rfl|.str _,h=>h|.tup l,h=>E00 l h|.lst l,h=>E00 l h|.dct,h=>by cases h
theorem E00:∀ a:List D,e10 a=true->PyData.canLayAll0 (O80 a)=true
 |[],_=>rfl
 |x::r,h=>by
  simp only[e10,Á] at h;simp only[O80,PyData.canLayAll0,H30 x h.1,E00 r h.2,Bool.and_self]
end
mutual
theorem L60:∀ a:D,(toP a).depth=deep a
 |.non=>rfl|.bl _=>rfl|.int _=>rfl|.str _=>rfl|.tup l=>congrArg (· + 1) (L70 l)|.lst l=>congrArg (· + 1) (L70 l)|.dct=>rfl
theorem L70:∀ a:List D,Ñ0 (O80 a)=f10 a
 |[]=>rfl
 |x::r=>by
  simp only[O80,Ñ0,f10];rw[L60 x,L70 r]
end
def m71(h:æ)(u:Ã)(d:D):Prop:=t30 d=true/\∃ as,Reads h u (toP d) as
def e30(h:æ)(us:List Ã)(ds:List D):Prop:=e10 ds=true/\∃ as,ReadsAll h us (O80 ds) as
section
variable {X:Cx}{pins:List (Æ × Obj)}{σ:L2.St}{H:Hp}{s:Å}
mutual
theorem o30(I:Inv X pins σ H s):∀ {d:D}{v:V}{u:Ã},Hd X.K H d v->RelV v u->t30 d=true->∃ as,Reads s.heap u (toP d) as
 |.non,_,_,h,r,_=>by cases h.u62;cases r;exact⟨_,.none⟩
 |.bl b,_,_,h,r,_=>by cases h.bl_;cases r;exact⟨_,.bool b⟩
 |.int i,_,_,h,r,_=>by cases h.i90;obtain⟨t,rfl⟩:=r;exact⟨_,.int i t⟩
 |.str x,_,_,h,r,_=>by cases h.z42;obtain⟨t,rfl⟩:=r;exact⟨_,.str x t⟩
 |.tup l,_,_,h,r,f=>by
  obtain⟨a,xs,rfl,h1,h2⟩:=h.D90;cases r;obtain⟨its,rv,⟨o,e1,e2,n,e3⟩,_⟩:=I.tuple h1;obtain⟨as,ra⟩:=E10 I h2 rv f;exact⟨_,.tuple e1 e2 e3 (by simpa using ra)⟩
 |.lst l,_,_,h,r,f=>by
  obtain⟨a,xs,rfl,h1,h2⟩:=h.f21;cases r;obtain⟨its,rv,⟨o,n,e1,e2,_,e3⟩,_⟩:=I.list h1.sq;obtain⟨as,ra⟩:=E10 I h2 rv f;exact⟨_,.list e1 e2 e3 (by simpa using ra)⟩
 |.dct,_,_,_,_,f=>by cases f
theorem E10(I:Inv X pins σ H s):∀ {ds:List D}{vs:List V}{us:List Ã},HdA X.K H ds vs->Vals vs us->e10 ds=true->∃ as,ReadsAll s.heap us (O80 ds) as
 |[],_,_,h,r,_=>by cases h.f20;cases r;exact⟨_,.nil⟩
 |d::ds,_,_,h,r,f=>by
  obtain⟨x,xs,rfl,h1,h2⟩:=h.c00;cases r with
  |cons r1 r2 =>
   simp only[e10,Á] at f;obtain⟨_,a1⟩:=o30 I h1 r1 f.1;obtain⟨_,a2⟩:=E10 I h2 r2 f.2;exact⟨_,.cons a1 a2⟩
end
end
theorem v00(h:okD d=true):t30 d=true/\SeqAt.shaped (toP d)=true:=by
 unfold okD at h;rw[Á,decide_eq_true_eq] at h;refine⟨h.1,?_⟩;unfold SeqAt.shaped;rw[H30 d h.1,L60,Æ4,decide_eq_true_eq];omega
section
variable {X:Cx}
theorem l52(h:eqE a b=some c):∃ l,a=.tup l/\b=.tup []/\c=l.isEmpty:=by
 unfold eqE at h;split at h
 ·cases h;exact⟨_,rfl,rfl,rfl⟩
 ·cases h
theorem l62(hu:X.A.units + 64 < Å6):OpR X (ø .Eq) (rD2 X.K λa b=>(eqQ a b).map λc=>.d (.bl c)):=by
 intro pins s σ H x y v u Q I rx ry h;obtain⟨zA,z,dx,dy,w,st,hx,hy,e,q⟩:=h;unfold eqQ at e;dsimp only at e;split at e
 ·rename_i ok;cases e;rw[Á] at ok;obtain⟨f1,s1⟩:=v00 ok.1;obtain⟨f2,s2⟩:=v00 ok.2;obtain⟨as,r1⟩:=o30 I (hx.same (a30 zA H)) rx f1;obtain⟨bs,r2⟩:=o30 I (hy.same (a30 zA H)) ry f2;exact eq_dataH r1 r2 s1 s2 hu ⟨.bl _,H,I,rfl,by rw[S20 dx dy f1 f2];exact q _ _ (a20.refl H) j20⟩
 ·obtain⟨c,h1,h2⟩:=Í.mp e;obtain⟨l,rfl,rfl,rfl⟩:=l52 h1;subst h2;obtain⟨a,xs,rfl,k1,k2⟩:=hx.D90;obtain⟨b,ys,rfl,k3,k4⟩:=hy.D90;cases k4.f20;cases rx;cases ry;obtain⟨its,rv,ht,_⟩:=I.tuple ((a30 zA H).sqT k1);obtain⟨iu,ru,hu2,_⟩:=I.tuple ((a30 zA H).sqT k3);cases ru;have e1:its.length=l.length:=by rw[← rv.length,k2.length]
  refine SeqAt.eq_tupleAt (e:=λ_=>true) ht hu2 ∅ (λj _ h2=>absurd h2 (Ú6 j)) ⟨.bl _,H,I,rfl,?_⟩
  have e2:((î (min its.toArray.size ([]:List Ã).toArray.size)).all (λ_=>true)&&its.toArray.size == ([]:List Ã).toArray.size)=l.isEmpty:=by
   simp only[Õ,Ã0,Nat.min_zero,List.range_zero,all_nil,Æ4,e1];cases l <;> rfl
  rw[e2];exact q _ _ (a20.refl H) j20
theorem l72(hu:X.A.units + 64 < Å6):OpR X (ø .NotEq) (rD2 X.K λa b=>(eqO a b).map λc=>.d (.bl !c)):=by
 intro pins s σ H x y v u Q I rx ry h;obtain⟨zA,z,dx,dy,w,st,hx,hy,e,q⟩:=h;unfold eqO at e;dsimp only at e;split at e
 ·rename_i ok;cases e;rw[Á] at ok;obtain⟨f1,s1⟩:=v00 ok.1;obtain⟨f2,s2⟩:=v00 ok.2;obtain⟨as,r1⟩:=o30 I (hx.same (a30 zA H)) rx f1;obtain⟨bs,r2⟩:=o30 I (hy.same (a30 zA H)) ry f2;exact ne_dataH r1 r2 s1 s2 hu ⟨.bl _,H,I,rfl,by rw[S20 dx dy f1 f2];exact q _ _ (a20.refl H) j20⟩
 ·cases e
theorem X91(hu:X.A.units + 64 < Å6):OpR X (ø .NotEq) (rD2 X.K λa b=>(neO a b).map λc=>.d (.bl c)):=by
 intro pins s σ H x y v u Q I rx ry h;obtain⟨zA,z,dx,dy,w,st,hx,hy,e,q⟩:=h;unfold neO at e;dsimp only at e;split at e
 ·cases e;unfold Hd at hx;obtain⟨a,kvs,rfl,h1⟩:=hx;obtain⟨b,xs,rfl,h2,_⟩:=hy.D90;exact W11 hu pins s σ H _ _ v u Q I rx ry ⟨a,b,kvs,xs,rfl,rfl,(o20 h1).1,(a30 zA H).sqT h2,q _ _ (a20.refl H) j20⟩
 ·refine l72 hu pins s σ H _ _ v u Q I rx ry ⟨zA,z,dx,dy,w,st,hx,hy,?_,q⟩;rw[← e,Option.map_map];rfl
end
theorem u51(h:O70 l=true):e10 l=true/\f10 l<=39:=by
 unfold O70 at h;rw[Á,decide_eq_true_eq] at h;exact h
theorem L80(h:okD d=true):deep d<=40:=by
 unfold okD at h;rw[Á,decide_eq_true_eq] at h;exact h.2
theorem Z60(x:D)(fx:t30 x=true):∀ l:List D,e10 l=true->((O80 l).any λy=>Ù6 y (toP x))=memD x l
 |[],_=>rfl
 |y::r,h=>by
  simp only[e10,Á] at h;show(Ù6 (toP y) (toP x) || (O80 r).any λy=>Ù6 y (toP x))=(eqD y x || memD x r);rw[S20 y x h.1 fx,Z60 x fx r h.2]
section
variable {X:Cx}
theorem u61(h:e52 x l=some b):okD x=true/\O70 l=true/\b=memD x l:=by
 unfold e52 at h;split at h
 ·rename_i ok;rw[Á] at ok;cases h;exact⟨ok.1,ok.2,rfl⟩
 ·cases h
theorem room_in{A:ö}(hu:A.units + 64 < Å6){l:List D}{x:D}(h:okD x=true):A.units + 1 + min (Ñ0 (O80 l)) (toP x).depth < cLine:=by
 have h1:=L80 h;have h2:min (Ñ0 (O80 l)) (toP x).depth<=(toP x).depth:=Nat.min_le_right _ _;have h3:=L60 x;omega
theorem Y01(hu:X.A.units + 64 < Å6):OpR X (ø .In) (rD2 X.K λa b=>(B90 .mem a b).map λc=>.d (.bl c)):=by
 intro pins s σ H x y v u Q I rx ry h;obtain⟨zA,z,dx,dy,w,st,hx,hy,e,q⟩:=h;cases dy with
 |tup l =>
  obtain⟨b,e1,e2⟩:=Í.mp e;subst e2;obtain⟨o1,o2,rfl⟩:=u61 e1;obtain⟨f2,_⟩:=u51 o2;obtain⟨f1,_⟩:=v00 o1;obtain⟨as,r1⟩:=o30 I (hx.same (a30 zA H)) rx f1;obtain⟨bs,r2⟩:=o30 I (hy.same (a30 zA H)) ry (by simpa [t30] using f2)
  exact SeqAt.in_tuple_reads r2 r1 (E00 l f2) (H30 dx f1) (room_in hu o1) ⟨.bl _,H,I,rfl,by rw[Z60 dx f1 l f2];exact q _ _ (a20.refl H) j20⟩
 |lst l =>
  obtain⟨b,e1,e2⟩:=Í.mp e;subst e2;obtain⟨o1,o2,rfl⟩:=u61 e1;obtain⟨f2,_⟩:=u51 o2;obtain⟨f1,_⟩:=v00 o1;obtain⟨as,r1⟩:=o30 I (hx.same (a30 zA H)) rx f1;obtain⟨bs,r2⟩:=o30 I (hy.same (a30 zA H)) ry (by simpa [t30] using f2)
  exact SeqAt.in_list_reads r2 r1 (E00 l f2) (H30 dx f1) (room_in hu o1) ⟨.bl _,H,I,rfl,by rw[Z60 dx f1 l f2];exact q _ _ (a20.refl H) j20⟩
 |_=>cases e
end
end Q
namespace Q
open PySem L2 PySem.Spec PyProof.Rows
variable [TB:Tb]
def z72(A:ö)(s:Å)(v u:Ã)(b:Bool):Prop:=∀ (P:Ü) (w:ì) (E:Ã->Å->Prop) (Q:Ã->Å->Prop),Q (.bool b) s->Ñ (Ö P w) A (richCompare .Lt v u) Q E s
section
open PySem.SeqAt
open PySem.AutoSeq1 (wpAny_loadPart')
open PySem.MeetsSeq PySem.MeetsSeq2 PySem.MeetsSeq3
inductive Lx (A:Around) (s:Shared):List Value->List Value->Bool->Prop
 |nn:Lx A s [] [] false
 |nc {u us}:Lx A s [] (u::us) true
 |cn {v vs}:Lx A s (v::vs) [] false
 |eq {v u vs us b}:EqAt A s v u true->Lx A s vs us b->Lx A s (v::vs) (u::us) b
 |ne {v u vs us b}:EqAt A s v u false->z72 A s v u b->Lx A s (v::vs) (u::us) b
theorem E20(l b:Æ)(items items2:Array Ã)(n n2:Nat)(dd dd2:Option Æ)(sl sl2:Array (Option Ã))(c:Bool) :
  Meets (Ä3.«tuple.__lt__» ⟨[.ref l,.ref b],[]⟩)
   (λA R s=>s.heap.get? l=some { cls:=.type "tuple",dict:=dd,data:=.seq items n,slots:=sl }/\s.heap.get? b=some { cls:=.type "tuple",dict:=dd2,data:=.seq items2 n2,slots:=sl2 } /\
    Lx A.in1 s items.toList items2.toList c/\R (.ok (.ret (.bool c))) s) :=
 .of_wp λprog w A R s h=>by
  obtain⟨hp,g,d,tk,os⟩:=s;obtain⟨hl,hb,hx,h⟩:=h;have f2:=Ù9
  wp_walk using Ä1 hl,Ä1 hb,wpAny_forIn_list _ (λrest b s'=>b.1=none/\s'=⟨hp,g,d,tk,os⟩/\∃ (vs ws:List Ã),rest=vs.zip ws /\
   vs.length + items2.size=ws.length + items.size/\Lx A.in1 ⟨hp,g,d,tk,os⟩ vs ws c) _
  case turn =>
   rintro ⟨y,x⟩ rest b s' ⟨hb',rfl,vs,ws,hz,hlen,hR⟩;cases hR with
   |nn=>rw[Ö2] at hz;cases hz
   |nc=>rw[Ö2] at hz;cases hz
   |cn=>rw[List.zip_nil_right] at hz;cases hz
   |eq he hr =>
    rw[È4] at hz;injection hz with hyx hrest;injection hyx with hy hx';subst hy hx';simp only[Ô] at hlen;refine À (he prog w _ _ ?_)
    wp_walk
    exact⟨rfl,rfl,_,_,hrest,by omega,hr⟩
   |ne he hr =>
    rw[È4] at hz;injection hz with hyx hrest;injection hyx with hy hx';subst hy hx';refine À (he prog w _ _ ?_);have hri:=λE Q q=>hr prog w E Q q
    wp_walk using hri
    exact⟨_,rfl,by simpa using h⟩
  case fin =>
   rintro ⟨b1,b2⟩ s' ⟨hb',rfl,vs,ws,hz,hlen,hR⟩;simp only at hb';subst hb';have hv:c=decide (items.size < items2.size):=by
    cases hR with
    |nn=>simp only[Ã0] at hlen;exact(decide_eq_false ∅).symm|nc=>simp only[Ã0,Ô] at hlen;exact(decide_eq_true ∅).symm|cn=>simp only[Ã0,Ô] at hlen;exact(decide_eq_false ∅).symm|eq he hr=>rw[È4] at hz;cases hz
    |ne he hr=>rw[È4] at hz;cases hz
   rw[hv] at h
   wp_walk
   exact⟨_,rfl,by simpa [tupleCompareSizes] using h⟩
  case h =>
   exact⟨rfl,rfl,items.toList,items2.toList,rfl,by simp;omega,hx⟩
end
theorem u71(hl:Í3 s.heap l i1)(hb:Í3 s.heap b i2)(hu:A.units < Å6)(hx:Lx A.in1 s i1.toList i2.toList c):z72 A s (.ref l) (.ref b) c:=by
 intro P w E Q h;obtain⟨⟨cls,dd,data,sl⟩,ho,hc,n,hd⟩:=id hl;obtain⟨⟨cls2,dd2,data2,sl2⟩,ho2,hc2,n2,hd2⟩:=id hb;simp only at hc hd hc2 hd2;subst hc hd hc2 hd2;exact richCompare_meets_room (op:=.Lt) ⟨_,ho,rfl⟩ ⟨_,ho2,rfl⟩ Ð9 Ü0 (Û1 _ _) (E20 l b i1 i2 n n2 dd dd2 sl sl2 c)
  ⟨ho,ho2,hx,show Ì9 c≠Ó2/\Q (.bool c) s from⟨(λx=>nomatch x),h⟩⟩ hu
theorem l82(ha:m71 s.heap v a)(hb:m71 s.heap u b)(hu:A.units + deep a < Å6):Ô5 A s v u (eqD a b):=by
 obtain⟨f1,as,r1⟩:=ha;obtain⟨f2,bs,r2⟩:=hb;rw[← S20 a b f1 f2];have h:=L60 a;have h2:min (toP a).depth (toP b).depth<=(toP a).depth:=Nat.min_le_left _ _;exact SeqAt.eqAt_reads (toP a) (toP b) A s v u as bs r1 r2 (H30 a f1) (H30 b f2) ∅
theorem e30.c00(x:e30 h us (d::ds)):∃ u r,us=u::r/\m71 h u d/\e30 h r ds:=by
 obtain⟨f,as,r⟩:=x;simp only[e10,Á] at f;cases r with
 |cons r1 r2=>exact⟨_,_,rfl,⟨f.1,_,r1⟩,f.2,_,r2⟩
theorem e30.f20(x:e30 h us []):us=[]:=by
 obtain⟨_,as,r⟩:=x;cases r;rfl
theorem in1_units(A:ö):A.in1.units=A.units + 1:=rfl
theorem Y11:∀ (n:Nat) {A:ö}{s:Å},
  (∀ (a b:D) (v u:Ã) (c:Bool),deep a<=n->m71 s.heap v a->m71 s.heap u b->ltD a b=some c->A.units + n < Å6->z72 A s v u c) /\
  (∀ (a b:List D) (vs us:List Ã) (c:Bool),f10 a < n->e30 s.heap vs a->e30 s.heap us b->I61 a b=some c->A.units + n < Å6->Lx A.in1 s vs us c):=by
 intro n
 induction n with
 |zero =>
  intro A s;refine⟨λa b v u c hd ha hb e hu=>?_,λa b vs us c hd=>absurd hd (Ú6 _)⟩;cases a with
  |int i =>
   cases b with
   |int j =>
    cases e;obtain⟨_,_,r1⟩:=ha;obtain⟨_,_,r2⟩:=hb;cases r1;cases r2;exact λP w E Q h=>HT.e41 A s i _ j _ P w E Q h
   |_=>cases e
  |tup l=>simp[deep] at hd|_=>cases e
 |succ n ih =>
  have rows:∀ {A:ö}{s:Å} (a b:List D) (vs us:List Ã) (c:Bool),f10 a < n + 1->e30 s.heap vs a->e30 s.heap us b->I61 a b=some c->A.units + (n + 1) < Å6->Lx A.in1 s vs us c:=by
   intro A s a
   induction a with
   |nil =>
    intro b vs us c _ ha hb e hu;cases ha.f20;cases b with
    |nil=>cases hb.f20;cases e;exact .nn
    |cons y q=>obtain⟨u,r,rfl,_⟩:=hb.c00;cases e;exact .nc
   |cons x r ihr =>
    intro b vs us c hd ha hb e hu;obtain⟨v,vs',rfl,a1,a2⟩:=ha.c00;cases b with
    |nil=>cases hb.f20;cases e;exact .cn
    |cons y q =>
     obtain⟨u,us',rfl,b1,b2⟩:=hb.c00;simp only[f10] at hd;have d1:deep x<=n:=Nat.le_of_lt_succ (Æ3 (Nat.le_max_left _ _) hd);have d2:f10 r < n + 1:=Æ3 (Nat.le_max_right _ _) hd;have hu1:A.in1.units + n < cLine:=by rw[in1_units];omega
     have he:=l82 (A:=A.in1) a1 b1 ∅
     simp only[I61] at e;cases hq:eqD x y with
     |true =>
      rw[hq] at he e;exact .eq he (ihr q vs' us' c d2 a2 b2 (by simpa using e) hu)
     |false =>
      rw[hq] at he e;exact .ne he ((ih (A:=A.in1) (s:=s)).1 x y v u c d1 a1 b1 (by simpa using e) hu1)
  intro A s;refine⟨λa b v u c hd ha hb e hu=>?_,rows⟩;cases a with
  |int i =>
   cases b with
   |int j =>
    cases e;obtain⟨_,_,r1⟩:=ha;obtain⟨_,_,r2⟩:=hb;cases r1;cases r2;exact λP w E Q h=>HT.e41 A s i _ j _ P w E Q h
   |_=>cases e
  |tup l =>
   cases b with
   |tup q =>
    obtain⟨f1,as,r1⟩:=ha;obtain⟨f2,bs,r2⟩:=hb;simp only[deep] at hd;cases r1 with
    |tuple k1 k2 k3 k4 =>
     cases r2 with
     |tuple m1 m2 m3 m4 =>
      exact u71 ⟨_,k1,k2,_,k3⟩ ⟨_,m1,m2,_,m3⟩ ∅ (rows l q _ _ c ∅ ⟨by simpa [t30] using f1,_,k4⟩ ⟨by simpa [t30] using f2,_,m4⟩ e hu)
   |_=>cases e
  |_=>cases e
section
variable {X:Cx}
theorem l92(h:ltO a b=some c):okD a=true/\okD b=true/\ltD a b=some c:=by
 unfold ltO at h;split at h
 ·rename_i ok;rw[Á] at ok;exact⟨ok.1,ok.2,h⟩
 ·cases h
theorem m02(hu:X.A.units + 64 < Å6):OpR X (ø .Lt) (rD2 X.K λa b=>(B90 .lt a b).map λc=>.d (.bl c)):=by
 intro pins s σ H x y v u Q I rx ry h;obtain⟨zA,z,dx,dy,w,st,hx,hy,e,q⟩:=h;obtain⟨b,e1,e2⟩:=Í.mp e;subst e2;obtain⟨o1,o2,e3⟩:=l92 (show ltO dx dy=some b from e1);obtain⟨f1,_⟩:=v00 o1;obtain⟨f2,_⟩:=v00 o2;obtain⟨as,r1⟩:=o30 I (hx.same (a30 zA H)) rx f1;obtain⟨bs,r2⟩:=o30 I (hy.same (a30 zA H)) ry f2;exact(Y11 40 (A:=X.A) (s:=s)).1 dx dy v u b (L80 o1) ⟨f1,as,r1⟩ ⟨f2,bs,r2⟩ e3 ∅ _ _ _ _ ⟨.bl b,H,I,rfl,q _ _ (a20.refl H) j20⟩
theorem Z70{K:Â}{H:Hp}:∀ {l:List D}{ns:List Int}{vs:List V},Z00 l=some ns->HdA K H l vs->vs=ns.map V.int/\l=ns.map D.int
 |[],_,_,e,h=>by cases e;rw[h.f20];exact⟨rfl,rfl⟩
 |.int i::r,_,_,e,h=>by
  obtain⟨ms,e1,rfl⟩:=Í.mp e;obtain⟨x,xs,rfl,h1,h2⟩:=h.c00;cases h1.i90;obtain⟨rfl,rfl⟩:=Z70 e1 h2;exact⟨rfl,rfl⟩
 |.non::_,_,_,e,_=>by cases e
 |.bl _::_,_,_,e,_=>by cases e
 |.str _::_,_,_,e,_=>by cases e
 |.tup _::_,_,_,e,_=>by cases e
 |.lst _::_,_,_,e,_=>by cases e
 |.dct::_,_,_,e,_=>by cases e
theorem m12(hu:X.A.units + 64 < Å6):OpR X (ø .LtE) (rD2 X.K λa b=>(B90 .le a b).map λc=>.d (.bl c)):=by
 intro pins s σ H x y v u Q I rx ry h;obtain⟨zA,z,dx,dy,w,st,hx,hy,e,q⟩:=h;cases dx with
 |int i =>
  cases dy with
  |int j =>
   cases e;cases hx.i90;cases hy.i90;exact x22 pins s σ H _ _ v u Q I rx ry ⟨i,j,rfl,rfl,q _ _ (a20.refl H) j20⟩
  |_=>cases e
 |tup a =>
  cases dy with
  |tup b =>
   obtain⟨c,e1,e2⟩:=Í.mp e;subst e2;obtain⟨ns,n1,e1⟩:=Ì.mp (show(Z00 a).bind _=_ from e1);obtain⟨ms,n2,rfl⟩:=Í.mp e1;obtain⟨p,xs,rfl,h1,h2⟩:=hx.D90;obtain⟨p',ys,rfl,h3,h4⟩:=hy.D90;obtain⟨rfl,_⟩:=Z70 n1 h2;obtain⟨rfl,_⟩:=Z70 n2 h4;exact j82 ∅ pins s σ H _ _ v u Q I rx ry ⟨p,p',ns,ms,rfl,rfl,(a30 zA H).sqT h1,(a30 zA H).sqT h3,q _ _ (a20.refl H) j20⟩
  |_=>cases e
 |_=>cases e
theorem m22:OpR X (ø .Gt) (rD2 X.K λa b=>(B90 .gt a b).map λc=>.d (.bl c)):=by
 intro pins s σ H x y v u Q I rx ry h;obtain⟨zA,z,dx,dy,w,st,hx,hy,e,q⟩:=h;cases dx with
 |int i =>
  cases dy with
  |int j =>
   cases e;cases hx.i90;cases hy.i90;exact x32 pins s σ H _ _ v u Q I rx ry ⟨i,j,rfl,rfl,q _ _ (a20.refl H) j20⟩
  |_=>cases e
 |_=>cases e
theorem m32:OpR X (ø .GtE) (rD2 X.K λa b=>(B90 .ge a b).map λc=>.d (.bl c)):=by
 intro pins s σ H x y v u Q I rx ry h;obtain⟨zA,z,dx,dy,w,st,hx,hy,e,q⟩:=h;cases dx with
 |int i =>
  cases dy with
  |int j =>
   cases e;cases hx.i90;cases hy.i90;exact x42 pins s σ H _ _ v u Q I rx ry ⟨i,j,rfl,rfl,q _ _ (a20.refl H) j20⟩
  |_=>cases e
 |_=>cases e
theorem J31{K:Â}{H:Hp}{d:D}{v:V}(h:Hd K H d v):decide (v=.non)=t61 d:=by
 cases d with
 |non=>cases h.u62;rfl
 |bl b=>cases h.bl_;rfl
 |int i=>cases h.i90;rfl
 |str x=>cases h.z42;rfl
 |tup l=>obtain⟨a,xs,rfl,_⟩:=h.D90;rfl
 |lst l=>obtain⟨a,xs,rfl,_⟩:=h.f21;rfl
 |dct=>unfold Hd at h;obtain⟨a,kvs,rfl,_⟩:=h;rfl
theorem m42:OpR X (ø .Is) (rD2 X.K λa b=>(B90 .is a b).map λc=>.d (.bl c)):=by
 intro pins s σ H x y v u Q I rx ry h;obtain⟨zA,z,dx,dy,w,st,hx,hy,e,q⟩:=h;cases dy with
 |bl b =>
  cases dx with
  |bl a =>
   cases e;cases hx.bl_;cases hy.bl_;exact j92 pins s σ H _ _ v u Q I rx ry ⟨a,b,rfl,rfl,q _ _ (a20.refl H) j20⟩
  |_=>cases e
 |non =>
  have e':some (S.d (.bl (t61 dx)))=some w:=by cases dx <;> exact e
  cases e';cases hy.u62;refine i22 pins s σ H _ _ v u Q I rx ry ⟨rfl,?_⟩;rw[J31 hx];exact q _ _ (a20.refl H) j20
 |_=>cases dx <;> cases e
def opC:Cm->CmpOp
 |.eq=>.Eq | .ne=>.NotEq | .lt=>.Lt | .le=>.LtE | .gt=>.Gt | .ge=>.GtE | .is=>.Is | .mem=>.In
theorem e82(hu:X.A.units + 64 < Å6)(o:Cm):OpR X (ø (opC o)) (rD2 X.K λa b=>(B90 o a b).map λc=>.d (.bl c)):=by
 cases o
 ·exact l62 hu
 ·exact X91 hu
 ·exact m02 hu
 ·exact m12 hu
 ·exact m22
 ·exact m32
 ·exact m42
 ·exact Y01 hu
theorem HdA.one{K:Â}{H:Hp}{d:D}{xs:List V}(h:HdA K H [d] xs):∃ x,xs=[x]/\Hd K H d x:=by
 obtain⟨x,r,rfl,h1,h2⟩:=h.c00;rw[h2.f20];exact⟨x,rfl,h1⟩
theorem HdA.two{K:Â}{H:Hp}{d e:D}{xs:List V}(h:HdA K H [d,e] xs):∃ x y,xs=[x,y]/\Hd K H d x/\Hd K H e y:=by
 obtain⟨x,r,rfl,h1,h2⟩:=h.c00;obtain⟨y,rfl,h3⟩:=h2.one;exact⟨x,y,rfl,h1,h3⟩
theorem f51{K:Â}{zA:Option Æ}{H:Hp}{d:D}{l:List D}{v:V}(h:Hd K (hz zA H) d v)(e:Z10 d=some l):∃ a xs,v=.ref a/\(SqL K H a xs∨SqT K H a xs)/\HdA K (hz zA H) l xs:=by
 cases d with
 |tup m =>
  cases e;obtain⟨a,xs,rfl,h1,h2⟩:=h.D90;exact⟨a,xs,rfl,.inr ((a30 zA H).sqT h1),h2⟩
 |lst m =>
  cases e;obtain⟨a,xs,rfl,h1,h2⟩:=h.f21;exact⟨a,xs,rfl,.inl (h1.same (a30 zA H)).sq,h2⟩
 |_=>cases e
theorem m52:f50 X (.builtin "len") (rDn X.K (bfD .len)):=by
 intro pins s σ H xs us Q I r h;obtain⟨zA,z,ds,w,st,hx,e,q⟩:=h
 match ds,e with
 |[d],e =>
  obtain⟨l,e1,rfl⟩:=Í.mp (show(Z10 d).map _=some w from e);obtain⟨x,rfl,h1⟩:=hx.one;obtain⟨a,ys,rfl,h2,h3⟩:=f51 h1 e1;exact Q10 pins s σ H _ us Q I r ⟨a,ys,rfl,h2,by rw[h3.length];exact q _ _ (a20.refl H) h30⟩
theorem J41:f50 X (.type "tuple") (rDn X.K (bfD .tuple)):=by
 intro pins s σ H xs us Q I r h;obtain⟨zA,z,ds,w,st,hx,e,q⟩:=h
 match ds,e with
 |[d],e =>
  obtain⟨l,e1,rfl⟩:=Í.mp (show(Z10 d).map _=some w from e);obtain⟨x,rfl,h1⟩:=hx.one;obtain⟨a,ys,rfl,h2,h3⟩:=f51 h1 e1;refine J40 pins s σ H _ us Q I r ⟨a,ys,rfl,?_⟩;rcases h2 with h2 | h2
  ·refine .inl ⟨h2,λp hp=>q _ _ (a20.new _ hp) (D41 (Hd.tup ((st.same (a20.new _ hp)).X11 (SqT.of a90)) (h3.same (i60 (a20.new _ hp)))))⟩
  ·exact .inr ⟨h2,q _ _ (a20.refl H) (D41 (Hd.tup (st.X11 h2) h3))⟩
theorem Y21:f50 X (.type "list") (rDn X.K (bfD .list)):=by
 intro pins s σ H xs us Q I r h;obtain⟨zA,z,ds,w,st,hx,e,q⟩:=h
 match ds,e with
 |[d],e =>
  obtain⟨l,e1,rfl⟩:=Í.mp (show(Z10 d).map _=some w from e);obtain⟨x,rfl,h1⟩:=hx.one;obtain⟨a,ys,rfl,h2,h3⟩:=f51 h1 e1;exact Q20 pins s σ H _ us Q I r ⟨a,ys,rfl,h2,λp hp=>q _ _ (a20.new _ hp) (s30 st h3 hp)⟩
theorem P61{K:Â}{H:Hp}:∀ {l:List D}{bs:List Bool}{vs:List V},l.mapM asB=some bs->HdA K H l vs->vs=bs.map V.bl
 |[],_,_,e,h=>by simp at e;subst e;rw[h.f20];rfl
 |x::r,_,_,e,h=>by
  simp only[mapM_cons,bind,Ì] at e;obtain⟨b,e1,bs,e2,e3⟩:=e;cases e3;obtain⟨y,ys,rfl,h1,h2⟩:=h.c00;cases x with
  |bl c=>cases e1;cases h1.bl_;rw[P61 e2 h2];rfl
  |_=>cases e1
theorem m62(hc:X.calm=true):f50 X (.builtin "all") (rDn X.K (bfD .all)):=by
 intro pins s σ H xs us Q I r h;obtain⟨zA,z,ds,w,st,hx,e,q⟩:=h
 match ds,e with
 |[.lst l],e =>
  obtain⟨bs,e1,rfl⟩:=Í.mp (show(l.mapM asB).map _=some w from e);obtain⟨x,rfl,h1⟩:=hx.one;obtain⟨a,ys,rfl,h2,h3⟩:=h1.f21;rw[P61 e1 h3] at h2;exact F81 hc pins s σ H _ us Q I r ⟨a,bs,rfl,(h2.same (a30 zA H)).sq,q _ _ (a20.refl H) j20⟩
theorem f61:∀ {ns:List Int}{vs:List Ã},Vals (ns.map V.int) vs->∃ xs:List (Int × Tok),vs=xs.map (λp=>.int p.1 p.2)/\xs.map (·.1)=ns
 |[],_,h=>by cases h;exact⟨[],rfl,rfl⟩
 |n::r,_,h=>by
  cases h with
  |cons h1 h2 =>
   obtain⟨t,rfl⟩:=h1;obtain⟨xs,rfl,e⟩:=f61 h2;exact⟨(n,t)::xs,rfl,by rw[Å1,e]⟩
theorem J51(hc:X.calm=true):f50 X (.builtin "sum") (λxs H Q=>∃ (a:Æ) (ns:List Int),xs=[.ref a]/\(SqL X.K H a (ns.map V.int)∨SqT X.K H a (ns.map V.int))/\Q (.int ns.sum) H):=by
 intro pins s σ H xs us Q I r h;obtain⟨a,ns,rfl,hq,q⟩:=h;obtain⟨u,rfl,rx⟩:=vals1 r;cases rx;have fin:∀ {its:List Ã},Vals (ns.map V.int) its->∃ xs:Array (Int × Tok),its.toArray=intItems xs/\preSum (numAt xs) xs.size=ns.sum:=λ{its} rv=>by
  obtain⟨xs,rfl,e⟩:=f61 rv;exact⟨xs.toArray,by simp[intItems],by rw[preSum_eq,É6 (by simp)];simp[e]⟩
 rcases hq with hq | hq
 ·obtain⟨its,rv,p,_⟩:=I.list hq;obtain⟨xs,e1,e2⟩:=fin rv;exact sum_intListG (I.ok.hd hc) (e1 ▸ p.isList) λh' tk t' k=>⟨.int ns.sum,H,I.kept k,by rw[e2];exact⟨_,rfl⟩,q⟩
 ·obtain⟨its,rv,p,_⟩:=I.tuple hq;obtain⟨xs,e1,e2⟩:=fin rv;exact W.ktm_sumG (I.ok.hd hc) (e1 ▸ p) λh' tk t' k=>⟨.int ns.sum,H,I.kept k,by rw[e2];exact⟨_,rfl⟩,q⟩
theorem P71{K:Â}{H:Hp}:∀ {l:List D}{i:Int}{vs:List V},I91 l=some i->HdA K H l vs->∃ ns:List Int,vs=ns.map V.int/\ns.sum=i
 |[],_,_,e,h=>by cases e;rw[h.f20];exact⟨[],rfl,rfl⟩
 |.int j::r,_,_,e,h=>by
  obtain⟨k,e1,rfl⟩:=Í.mp (show(I91 r).map _=_ from e);obtain⟨v,q,rfl,h1,h2⟩:=h.c00;obtain⟨ns,rfl,e2⟩:=P71 e1 h2;cases h1.i90;exact⟨j::ns,rfl,by rw[List.sum_cons,e2]⟩
theorem m72(hc:X.calm=true):f50 X (.builtin "sum") (rDn X.K (bfD .sum)):=by
 intro pins s σ H xs us Q I r h;obtain⟨zA,z,ds,w,st,hx,e,q⟩:=h
 match ds,e with
 |[d],e =>
  obtain⟨i,e1,rfl⟩:=Í.mp (show((Z10 d).bind I91).map _=some w from e);obtain⟨l,e2,e3⟩:=Ì.mp e1;obtain⟨x,rfl,h1⟩:=hx.one;obtain⟨a,ys,rfl,h2,h3⟩:=f51 h1 e2;obtain⟨ns,rfl,rfl⟩:=P71 e3 h3;exact J51 hc pins s σ H _ us Q I r ⟨a,ns,rfl,h2,q _ _ (a20.refl H) (show Hd X.K (hz zA H) _ _ from Hd.int)⟩
theorem m82(hc:X.calm=true):f50 X (.builtin "min") (rDn X.K (bfD .min)):=by
 intro pins s σ H xs us Q I r h;obtain⟨zA,z,ds,w,st,hx,e,q⟩:=h
 match ds,e with
 |[.int i,.int j],e =>
  cases e;obtain⟨x,y,rfl,h1,h2⟩:=hx.two;cases h1.i90;cases h2.i90;exact p71 hc pins s σ H _ us Q I r ⟨i,j,rfl,q _ _ (a20.refl H) h30⟩
theorem m92(hc:X.calm=true):f50 X (.builtin "max") (rDn X.K (bfD .max)):=by
 intro pins s σ H xs us Q I r h;obtain⟨zA,z,ds,w,st,hx,e,q⟩:=h
 match ds,e with
 |[.int i,.int j],e =>
  cases e;obtain⟨x,y,rfl,h1,h2⟩:=hx.two;cases h1.i90;cases h2.i90;exact p61 hc pins s σ H _ us Q I r ⟨i,j,rfl,q _ _ (a20.refl H) h30⟩
theorem n02:f50 X (.builtin "abs") (rDn X.K (bfD .abs)):=by
 intro pins s σ H xs us Q I r h;obtain⟨zA,z,ds,w,st,hx,e,q⟩:=h
 match ds,e with
 |[.int i],e =>
  cases e;obtain⟨x,rfl,h1⟩:=hx.one;cases h1.i90;exact E41 pins s σ H _ us Q I r ⟨i,rfl,q _ _ (a20.refl H) h30⟩
theorem n12:f50 X (.type "int") (rDn X.K (bfD .int)):=by
 intro pins s σ H xs us Q I r h;obtain⟨zA,z,ds,w,st,hx,e,q⟩:=h
 match ds,e with
 |[.int i],e =>
  cases e;obtain⟨x,rfl,h1⟩:=hx.one;cases h1.i90;exact P30 pins s σ H _ us Q I r (.inl ⟨i,rfl,q _ _ (a20.refl H) h30⟩)
 |[.bl b],e =>
  cases e;obtain⟨x,rfl,h1⟩:=hx.one;cases h1.bl_;exact P30 pins s σ H _ us Q I r (.inr ⟨b,rfl,q _ _ (a20.refl H) h30⟩)
def tyN:Ty->String
 |.int=>"int" | .bool=>"bool" | .tuple=>"tuple" | .list=>"list" | .str=>"str" | .seq=>""
theorem Y31(t:Ty)(d:D)(h:t≠.seq):isB d.ty (tyN t)=e62 t d:=by
 cases t <;> cases d <;> first | rfl | (exact absurd rfl h) | decide
theorem J61(d:D):(isB d.ty "tuple" || isB d.ty "list")=e62 .seq d:=by cases d <;> rfl
theorem at_of{K:Â}{H:Hp}{l:List D}{xs:List V}{i:Int}{d:D}(h:HdA K H l xs)(e:atI l i=some d):∃ v,atI xs i=some v/\Hd K H d v:=by
 unfold atI at e ⊢;obtain⟨j,e1,e2⟩:=Ì.mp e;rw[h.length,e1];exact h.get e2
theorem ixD:IxR X (rD2 X.K λa b=>(L40 a b).map S.d):=by
 intro value slice pins s σ H x y v u Q I rx ry h hs;obtain⟨zA,z,dx,dy,w,st,hx,hy,e,q⟩:=h;obtain⟨r,e1,rfl⟩:=Í.mp e;cases dx with
 |tup l =>
  cases dy with
  |int i =>
   cases hy.i90;obtain⟨a,xs,rfl,h1,h2⟩:=hx.D90;obtain⟨v',e2,h3⟩:=at_of h2 e1;exact i72 value slice pins s σ H _ _ v u Q I rx ry ⟨a,xs,i,v',rfl,rfl,(a30 zA H).sqT h1,e2,q _ _ (a20.refl H) (D41 h3)⟩ hs
  |_=>cases e1
 |lst l =>
  cases dy with
  |int i =>
   cases hy.i90;obtain⟨a,xs,rfl,h1,h2⟩:=hx.f21;obtain⟨v',e2,h3⟩:=at_of h2 e1;exact X80 value slice pins s σ H _ _ v u Q I rx ry ⟨a,xs,i,v',rfl,rfl,(h1.same (a30 zA H)).sq,e2,q _ _ (a20.refl H) (D41 h3)⟩ hs
  |_=>cases e1
 |_=>cases e1
theorem P81{K:Â}{H:Hp}{l:List D}{xs:List V}(h:HdA K H l xs)(lo hi:Option Int):HdA K H (cutD l lo hi) (E81 xs lo hi):=by
 unfold cutD E81;rw[h.length];exact(h.drop _).take _
def O42(K:Â):V->Option Int->Option Int->Hp->VK->Prop:=λx lo hi H Q=>∃ zA z dx s,d50 zA z H/\Hd K (hz zA H) dx x/\slD dx lo hi=some s/\∀ v H',a20 H H'->RvS K zA H H' s v->Q v H'
theorem O52:SlR X (O42 X.K):=by
 intro pins s σ H x v vl vu lo hi sl Q I rx hs pl pu h;obtain⟨zA,z,dx,w,st,hx,e,q⟩:=h;cases dx with
 |tup l =>
  cases e;obtain⟨a,xs,rfl,h1,h2⟩:=hx.D90;exact V71 pins s σ H _ v vl vu lo hi sl Q I rx hs pl pu ⟨a,xs,rfl,(a30 zA H).sqT h1,tupQ st (P81 h2 lo hi) q⟩
 |lst l =>
  cases e;obtain⟨a,xs,rfl,h1,h2⟩:=hx.f21;exact U01 pins s σ H _ v vl vu lo hi sl Q I rx hs pl pu ⟨a,xs,rfl,(h1.same (a30 zA H)).sq,λp hp=>q _ _ (a20.new _ hp) (s30 st (P81 h2 lo hi) hp)⟩
 |_=>cases e
end
end Q
namespace Q
open PySem L2 PySem.Spec PyProof.Rows
open PySem.W (KatLex KatTups kat_nil kat_cons kat_go kat_yes kat_no kat_one kat_lt kat_kind kas_kind kat_lt_int)
theorem E30(k:D):∀ l,(I71 k l).Perm (k::l)
 |[]=>.refl _
 |y::r=>by
  unfold I71;split
  ·exact((E30 k r).cons y).trans (.swap _ _ _)
  ·exact .refl _
theorem x50:∀ l,(L30 l).Perm l
 |[]=>.refl _|k::r=>(E30 k _).trans ((x50 r).cons k)
theorem u81(k:D):∀ l,l.Pairwise (λx y=>MySort.k20 (flt y) (flt x)=false)->(I71 k l).Pairwise (λx y=>MySort.k20 (flt y) (flt x)=false)
 |[],_=>List.pairwise_singleton _ _
 |y::r,h=>by
  obtain⟨h1,h2⟩:=Í5.mp h;unfold I71;split
  ·rename_i hy;refine Í5.mpr ⟨λz hz=>?_,u81 k r h2⟩;rcases ô.mp ((E30 k r).mem_iff.mp hz) with rfl | hz
   ·cases q:MySort.k20 (flt z) (flt y) with
    |false=>rfl|true=>have:=MySort.q30 _ _ _ hy q;rw[MySort.t00] at this;cases this
   ·exact h1 z hz
  ·rename_i hy;refine Í5.mpr ⟨λz hz=>?_,h⟩;rcases ô.mp hz with rfl | hz
   ·simpa using hy
   ·cases q:MySort.k20 (flt z) (flt k) with
    |false=>rfl
    |true =>
     rcases MySort.e71 _ (flt y) _ q with q | q
     ·rw[h1 z hz] at q;cases q
     ·exact absurd q hy
theorem f71:∀ l,(L30 l).Pairwise (λx y=>MySort.k20 (flt y) (flt x)=false)
 |[]=>.nil|k::r=>u81 k _ (f71 r)
mutual
theorem P91:∀ x y:D,eqT x y=true->x=y
 |.int i,y,h=>by
  cases y with
  |int j=>rw[eq_of_beq (show(i == j)=true from h)]|_=>cases h
 |.tup a,y,h=>by
  cases y with
  |tup b=>rw[Z80 a b h]|_=>cases h
 |.non,y,h=>by cases y <;> cases h
 |.bl _,y,h=>by cases y <;> cases h
 |.str _,y,h=>by cases y <;> cases h
 |.lst _,y,h=>by cases y <;> cases h
 |.dct,y,h=>by cases y <;> cases h
theorem Z80:∀ x y:List D,X30 x y=true->x=y
 |[],[],_=>rfl|[],_::_,h=>by cases h
 |_::_,[],h=>by cases h
 |x::r,y::q,h=>by
  have h:(eqT x y&&X30 r q)=true:=h;rw[Á] at h;rw[P91 x y h.1,Z80 r q h.2]
end
variable [TB:Tb]
theorem Y41(ok:∀ x∈l,∀ y∈l,flt x=flt y->x=y)(h:MySort.sortedBy (l.map flt) p):(p.map λi=>l.getD i .non)=L30 l:=by
 have h1:=h.1.map λi=>l.getD i .non;rw[È,MySort.range_getD] at h1;have e:((p.map λi=>l.getD i .non).map flt)=p.map λi=>(l.map flt).getD i []:=by
  rw[ù];refine Î6 λi hi=>?_;have:i < l.length:=by have:=h.1.mem_iff.mp hi;simpa using this
  simp[this]
 have h2:(p.map λi=>l.getD i .non).Pairwise λx y=>MySort.k20 (flt y) (flt x)=false:=by
  have:=h.2;rw[← e,List.pairwise_map] at this;exact this
 refine Ù3 (le:=λx y=>MySort.k20 (flt y) (flt x)=false) (λa b ha hb p q=>?_) h2 (f71 l) (h1.trans (x50 l).symm);exact ok a (h1.mem_iff.mp ha) b ((x50 l).mem_iff.mp hb) (MySort.q40 _ _ q p)
mutual
theorem J71(kp:MySort.s11 h h'):∀ (d:D) {u:Ã}{as:List Æ},eqT d d=true->Reads h u (toP d) as->Reads h' u (toP d) as
 |.int i,_,_,_,r=>by cases r;exact .int _ _
 |.tup l,_,_,e,r=>by
  cases r with
  |tuple k1 k2 k3 k4=>exact .tuple (kp _ _ k1 k2) k2 k3 (o40 kp l e k4)
 |.non,_,_,e,_=>by cases e
 |.bl _,_,_,e,_=>by cases e
 |.str _,_,_,e,_=>by cases e
 |.lst _,_,_,e,_=>by cases e
 |.dct,_,_,e,_=>by cases e
theorem o40(kp:MySort.s11 h h'):∀ (l:List D) {us:List Ã}{as:List Æ},X30 l l=true->ReadsAll h us (O80 l) as->ReadsAll h' us (O80 l) as
 |[],_,_,_,r=>by cases r;exact .nil
 |x::q,_,_,e,r=>by
  have e:(eqT x x&&X30 q q)=true:=e;rw[Á] at e;cases r with
  |cons r1 r2=>exact .cons (J71 kp x e.1 r1) (o40 kp q e.2 r2)
end
theorem e30.get:∀ {us:List Ã}{l:List D}{i:Nat}{d:D},e30 h us l->l[i]?=some d->m71 h (us.getD i â) d
 |_,[],i,d,_,e=>by cases e
 |us,x::r,i,d,hd,e=>by
  obtain⟨u,q,rfl,h1,h2⟩:=hd.c00;cases i with
  |zero=>cases e;simpa using h1
  |succ i=>simpa using e30.get h2 (by simpa using e)
theorem e30.len:∀ {us:List Ã}{l:List D},e30 h us l->us.length=l.length
 |_,[],hd=>by rw[hd.f20];rfl
 |us,x::r,hd=>by
  obtain⟨u,q,rfl,h1,h2⟩:=hd.c00;simp[e30.len h2]
def Q01(l:List D):Prop:=∀ x r,l=x::r->∃ i,x=.int i
theorem I32(hu:A.units + 40 < Å6):∀ (a c:List D) {vs us:List Ã}{r:Bool} (i:Nat),e30 s.heap vs a->e30 s.heap us c->I61 a c=some r->f10 a<=39 ->
  ((b&&i == 0)=true->Q01 a/\Q01 c)->fin=decide (vs.length < us.length)->Q r s->KatLex P w A b fin Q (vs.zip us) i s
 |[],[],_,_,r,i,ha,hc,e,_,_,hf,q=>by
  cases ha.f20;cases hc.f20;cases e;subst hf;exact kat_nil q
 |[],y::t,_,_,r,i,ha,hc,e,_,_,hf,q=>by
  cases ha.f20;obtain⟨u,us,rfl,_,_⟩:=hc.c00;cases e;subst hf;exact kat_nil q
 |x::l,[],_,_,r,i,ha,hc,e,_,_,hf,q=>by
  cases hc.f20;obtain⟨v,vs,rfl,_,_⟩:=ha.c00;cases e;subst hf;exact kat_nil q
 |x::l,y::t,_,_,r,i,ha,hc,e,hd,hi,hf,q=>by
  obtain⟨v,vs,rfl,a1,a2⟩:=ha.c00;obtain⟨u,us,rfl,c1,c2⟩:=hc.c00;have d1:deep x<=39:=Þ (Nat.le_max_left _ _) hd;have d2:f10 l<=39:=Þ (Nat.le_max_right _ _) hd;have e:(if eqD x y=true then I61 l t else ltD x y)=some r:=e;refine kat_cons (l82 (A:=A) a1 c1 ∅ P w _ _ ?_)
  refine kat_go (λz=>?_) λz=>?_
  ·rw[if_pos z] at e;refine kat_yes (I32 hu l t (i + 1) a2 c2 e d2 (λk=>?_) (by rw[hf];simp) q)
   simp at k
  ·rw[if_neg (by rw[z];exact Ò)] at e
   refine kat_no ?_;cases hb:(b&&i == 0) with
   |true =>
    obtain⟨f1,f2⟩:=hi hb;obtain⟨m,rfl⟩:=f1 x l rfl;obtain⟨n,rfl⟩:=f2 y t rfl;cases e;obtain⟨_,_,r1⟩:=a1;obtain⟨_,_,r2⟩:=c1;cases r1;cases r2;exact oneLt_int q
   |false=>exact kat_one _ _ ((Y11 39 (A:=A) (s:=s)).1 x y v u r d1 a1 c1 e ∅ P w _ _ q)
theorem Z90(h:t71 x=0):∃ i,x=.int i:=by
 cases x with
 |int i=>exact⟨i,rfl⟩
 |tup l =>
  cases l with
  |nil=>cases h
  |cons y r=>cases y <;> cases h
 |_=>cases h
theorem a01(h:t71 x=k)(h1:1<=k)(h3:k < 3):∃ y r,x=.tup (y::r)/\(k=1->∃ i,y=.int i)/\(k=2->∃ l,y=.tup l):=by
 cases x with
 |tup l =>
  cases l with
  |nil=>have:k=3:=h.symm;omega
  |cons y r =>
   refine⟨y,r,rfl,λe=>?_,λe=>?_⟩ <;> subst e <;> cases y <;> first | exact⟨_,rfl⟩ | cases h
 |int i=>have:k=0:=h.symm;omega|_=>have:k=3:=h.symm;omega
theorem Y51(h1:1<=k)(h3:k < 3):∀ {us:List Ã}{l:List D},e30 h us l->(∀ x∈l,t71 x=k)->∃ fs,KatTups h us fs/\fs.length=us.length/\∀ v∈fs,(k=1->∃ i t,v=Ã.int i t)/\(k=2->∃ a o,v=Â8 a/\h.get? a=some o/\o.cls=.type "tuple")
 |_,[],hd,_=>by rw[hd.f20];exact⟨[],.nil,rfl,λv hv=>absurd hv (by simp)⟩
 |_,x::r,hd,hk=>by
  obtain⟨u,q,rfl,⟨_,as,r1⟩,h2⟩:=hd.c00;obtain⟨fs,t1,t2,t3⟩:=Y51 h1 h3 h2 λy hy=>hk y (É _ hy);obtain⟨y,l,rfl,y1,y2⟩:=a01 (hk x Ê) h1 h3;cases r1 with
  | @tuple a o vs n xs as k1 k2 k3 k4 =>
   cases hv:vs.toList with
   |nil=>rw[hv] at k4;cases k4
   |cons f fr =>
    rw[hv] at k4;cases k4 with
    |cons f1 f2 =>
     refine⟨f::fs,.cons k1 k2 k3 (by rw[← û,hv];rfl) t1,by simp[t2],λv hm=>?_⟩
     rcases ô.mp hm with rfl | hm
     ·refine⟨λe=>?_,λe=>?_⟩
      ·obtain⟨i,rfl⟩:=y1 e;cases f1;exact⟨_,_,rfl⟩
      ·obtain⟨m,rfl⟩:=y2 e;cases f1 with
       |tuple g1 g2 g3 g4=>exact⟨_,_,rfl,g1,g2⟩
     ·exact t3 v hm
def kdOf:Nat->Ë1
 |0=>Õ4|1=>tuples' true|_=>tuples' false
theorem a11(h:u90 x y=true):t71 y=t71 x/\ltD x y=some (MySort.k20 (flt x) (flt y))/\(flt x=flt y->x=y):=by
 unfold u90 at h;rw[Á,Á,Å5] at h;refine⟨eq_of_beq h.1,eq_of_beq h.2.1,λe=>?_⟩;rcases h.2.2 with k | k
 ·exact P91 _ _ k
 ·rw[e] at k;simp at k
theorem Q11(h64:us.length < 64)(hd:e30 s.heap us l)(hu:A.units + 40 < Å6)(k3:k < 3)(hk:∀ x∈l,t71 x=k)(ho:∀ x∈l,okD x=true)(hp:∀ x∈l,∀ y∈l,u90 x y=true):MySort.j32 P w A s us (MySort.sortedBy (l.map flt)) (kdOf k) where
 len:=by omega
 few h2:=MySort.j42 (by rw[È];exact hd.len) h2
 all p hp:=by rw[hp.1.length_eq,þ,È,hd.len]
 kind h2 E Q q:=by
  match k,k3,hk,q with
  |0,_,hk,q =>
   refine kas_kind h2 (T:=.type "int") (λv hv=>?_) rfl rfl q;obtain⟨i,hi,rfl⟩:=List.mem_iff_getElem.mp hv;have hi':i < l.length:=by rw[← hd.len];exact hi
   obtain⟨_,as,r⟩:=hd.get (i:=i) (d:=l[i]) (by simp[hi'])
   obtain⟨n,hn⟩:=Z90 (hk l[i] (Á2 hi'));rw[hn] at r;have e:us.getD i â=us[i]:=by simp[hi]
   rw[e] at r;generalize us[i]=v at r;cases r;exact Ø5 rfl
  |1,_,hk,q =>
   obtain⟨fs,t1,t2,t3⟩:=Y51 (-0) (-0) hd hk
   exact kat_kind (T:=.type "int") t1 ∅ (λv hv=>by obtain⟨i,t,rfl⟩:=(t3 v hv).1 rfl;exact Ø5 rfl) rfl q
  |2,_,hk,q =>
   obtain⟨fs,t1,t2,t3⟩:=Y51 (-0) (-0) hd hk
   exact kat_kind (T:=.type "tuple") t1 ∅ (λv hv=>by
    obtain⟨a,o,rfl,g1,g2⟩:=(t3 v hv).2 rfl;rw[← g2];exact(Ì2 g1).andThen .now) rfl q
 run:=MySort.U81 (by rw[È];exact hd.len) h64 λi j hi hj E C hC=>by
  have hi':i < l.length:=by rw[← hd.len];exact hi
  have hj':j < l.length:=by rw[← hd.len];exact hj
  have mi:=Á2 hi';have mj:=Á2 hj';obtain⟨_,h2,_⟩:=a11 (hp _ mi _ mj);have a1:=hd.get (i:=i) (d:=l[i]) (by simp[hi'])
  have b1:=hd.get (i:=j) (d:=l[j]) (by simp[hj'])
  have e1:(l.map flt).getD i []=flt l[i]:=by simp[hi']
  have e2:(l.map flt).getD j []=flt l[j]:=by simp[hj']
  rw[e1,e2] at hC;generalize MySort.k20 (flt l[i]) (flt l[j])=c at h2 hC;have kx:=hk _ mi;have ky:=hk _ mj;have ox:=L80 (ho _ mi);generalize l[i]=x at *
  generalize l[j]=y at *
  have tup:∀ b:Bool,1<=k->(b=true->k=1)->Ñ (Ö P w) A (keyLt' (tuples' b) (us.getD i â) (us.getD j â)) C E s:=λb h1 hb=>by
   obtain⟨x1,xr,rfl,x2,_⟩:=a01 kx h1 k3;obtain⟨y1,yr,rfl,y2,_⟩:=a01 ky h1 k3;obtain⟨f1,as,r1⟩:=a1;obtain⟨f2,bs,r2⟩:=b1;generalize us.getD i â=v at r1;generalize us.getD j â=u at r2;cases r1 with
   |tuple p1 p2 p3 p4 =>
    cases r2 with
    |tuple q1 q2 q3 q4 =>
     refine kat_lt p1 p3 q1 q3 (I32 hu (x1::xr) (y1::yr) 0 ⟨f1,_,p4⟩ ⟨f2,_,q4⟩ h2 (by have:deep (.tup (x1::xr))=f10 (x1::xr) + 1:=rfl;omega) (λz=>?_) (by simp) hC)
     have hb1:=hb (by simpa using z)
     exact⟨λa q e=>by cases e;exact x2 hb1,λa q e=>by cases e;exact y2 hb1⟩
  match k,k3,kx,ky,tup with
  |0,_,kx,ky,_ =>
   obtain⟨m,rfl⟩:=Z90 kx;obtain⟨n,rfl⟩:=Z90 ky;cases h2;obtain⟨_,_,r1⟩:=a1;obtain⟨_,_,r2⟩:=b1;generalize us.getD i â=v at r1;generalize us.getD j â=u at r2;cases r1;cases r2;exact kat_lt_int hC
  |1,_,_,_,tup=>exact tup true (-0) λ_=>rfl|2,_,_,_,tup=>exact tup false (-0) λh=>by cases h
theorem HdA.pick{K:Â}{H:Hp}{l:List D}{vs:List V}(h:HdA K H l vs):∀ {p:List Nat},(∀ i∈p,i < l.length)->HdA K H (p.map λi=>l.getD i .non) (p.map λi=>vs.getD i .non)
 |[],_=>.nil
 |i::p,hp=>by
  have hi:=hp i Ê;refine .cons ?_ (HdA.pick h λj hj=>hp j (É _ hj));obtain⟨v,e1,e2⟩:=h.get (i:=i) (d:=l[i]) (by simp[hi])
  have g1:l.getD i .non=l[i]:=by simp[hi]
  have g2:vs.getD i .non=v:=by rw[Ó,e1];rfl
  show Hd K H (l.getD i .non) (vs.getD i .non);rw[g1,g2];exact e2
end Q
namespace Q
open PySem L2 PySem.Spec PyProof.Rows
open PySem.W (kas_mapM kas_first_eq kas_item kas_item_eq kas_cmp)
theorem Y61(h:k<=8):∀ i∈TS.sN k,i < 2 ^ k:=by
 have:∀ k,k < 9->((TS.sN k).all λi=>Nat.blt i (2 ^ k))=true:=by decide +kernel
 intro i hi;exact Nat.blt_eq.mp (ç.mp (this k ∅) i hi)
theorem n22(h:k<=8):(TS.sN k).length=2 ^ k:=by
 have:∀ k,k < 9->beq (TS.sN k).length (2 ^ k)=true:=by decide +kernel
 exact Nat.eq_of_beq_eq_true (this k ∅)
theorem v40(h:i < 2 ^ k):(h70 k)[i]?=some (n30 k i):=by
 unfold h70;rw[Ø,Ì3 h];rfl
theorem n32(h:k<=8):((TS.sN k).map λi=>(h70 k).getD i .non)=I81 k :=
 Î6 λi hi=>by rw[Ó,v40 (Y61 h i hi)];rfl
theorem u91:∀ a b:List Nat,I61 (a.map λ(i:Nat)=>.int i) (b.map λ(i:Nat)=>.int i)=some (TS.u42 a b)
 |[],[]=>rfl|[],_::_=>rfl|_::_,[]=>rfl
 |a::r,b::q=>by
  show(if ((a:Int) == (b:Int))=true then I61 (r.map λ(i:Nat)=>.int i) (q.map λ(i:Nat)=>.int i) else some (decide ((a:Int) < b)))=some (if beq a b=true then TS.u42 r q else Nat.blt a b);rw[u91 r q];by_cases h:a=b
  ·subst h;rw[if_pos (by simp),if_pos (Nat.beq_refl a)]
  ·rw[if_neg (by simp;omega),if_neg λe=>h (Nat.eq_of_beq_eq_true e)]
   congr 1
   rw[Ò4,decide_eq_true_eq,Nat.blt_eq];omega
variable [TB:Tb]
section
variable {P:Ü}{w:ì}{A:ö}{E:Ã->Å->Prop}{s:Å}
def TupAt(h:æ)(v:Ã):Prop:=∃ a o xs n,v=.ref a/\h.get? a=some o/\o.cls=.type "tuple"/\o.data=.seq xs n
theorem f81(ho:s.heap.get? a=some o)(hc:o.cls=.type "tuple")(hd:o.data=.seq xs n)(q:Q xs[0]? s):Ñ (Ö P w) A (firstOfTuple' (.ref a)) Q E s:=by
 rw[kas_first_eq];refine À (Ú3 (show PySem.W.Looks (Ö P w) s.heap (typeOf (.ref a)) o.cls from(Ì2 ho).andThen .now) ?_);rw[hc,if_neg (by first | decide | simp)]
 exact À (Î9 ho hd (Ç q))
theorem S30:∀ (vs:List Ã),(∀ v∈vs,TupAt s.heap v)->∃ fs:List (Option Ã),∀ Q,Q fs s->Ñ (Ö P w) A (vs.mapM firstOfTuple') Q E s
 |[],_=>⟨[],λQ q=>by rw[List.mapM_nil];exact Ç q⟩
 |v::vs,h=>by
  obtain⟨fs,hf⟩:=S30 vs λu hu=>h u (É _ hu);obtain⟨a,o,xs,n,rfl,ho,hc,hd⟩:=h v Ê;refine⟨xs[0]?::fs,λQ q=>?_⟩;rw[mapM_cons];exact À (f81 ho hc hd (À (hf _ (Ç q))))
theorem Y71(ho:s.heap.get? a=some o)(hc:o.cls=.type "tuple")(hd:o.data=.seq #[] n)(h:∀ v∈vs,TupAt s.heap v)(q:Q Õ4 s):Ñ (Ö P w) A (keyKind' (Â8 a::vs).toArray) Q E s:=by
 obtain⟨fs,hf⟩:=S30 (P:=P) (w:=w) (A:=A) (E:=E) vs h;rw[keyKind'_eq,List.mapM_toArray,map_eq_pure_bind,mapM_cons];refine À (À (À (f81 ho hc hd (À (hf _ (Ç (Ç ?_)))))));rw[if_neg (by simp),if_neg (by simp)]
 rw[oneTypeOnly'_eq,List.mapM_toArray,map_eq_pure_bind];refine À (À (À (kas_mapM (r:=.type "tuple") _ (λv hv Q' hq=>?_) (Ç ?_))))
 ·have:TupAt s.heap v:=by
   rcases ô.mp hv with rfl | hv
   ·exact⟨_,_,_,_,rfl,ho,hc,hd⟩
   ·exact h v hv
  obtain⟨b,o',xs,m,rfl,ho',hc',_⟩:=this;rw[← hc'] at hq;exact Ú3 (show PySem.W.Looks (Ö P w) s.heap (typeOf (.ref b)) o'.cls from(Ì2 ho').andThen .now) hq
 ·have hall:((List.map (λ_=>Â7 "tuple") (Â8 a::vs)).toArray.all λx=>x == Â7 "tuple")=true:=by
   simp only[List.all_toArray,all_map,Ã6];intro _ _;rfl
  have h0:(List.map (λ_=>Â7 "tuple") (Â8 a::vs)).toArray[0]?=some (Â7 "tuple"):=by simp
  rw[h0];simp only[hall,if_true];exact Ç (Ç q)
theorem n42(hl:Í3 s.heap l i1)(hb:Í3 s.heap b i2)(hu:A.units < Å6)(hx:Lx A.in1 s i1.toList i2.toList c)(q:Q c s):Ñ (Ö P w) A (keyLt' Õ4 (.ref l) (.ref b)) Q E s:=by
 obtain⟨⟨cls,dd,data,sl⟩,ho,hc,n,hd⟩:=id hl;obtain⟨⟨cls2,dd2,data2,sl2⟩,ho2,hc2,n2,hd2⟩:=id hb;simp only at hc hd hc2 hd2;subst hc hd hc2 hd2;rw[keyLt'_oneType,oneLt'_eq];simp only[if_true];refine À (wpAny_cRoomFor hu (À (wpAny_callSpecialIfBound?_slot ⟨_,ho,rfl⟩ Ð9 (Æ9 Ð9 ⟨_,ho,rfl⟩ Ü0 (Û1 _ _) (E20 l b i1 i2 n n2 dd dd2 sl sl2 c) ⟨ho,ho2,hx,?_⟩))));exact Á3 q
theorem n52(h8:k<=8)(hd:e30 s.heap us (h70 k))(hu:A.units + 40 < Å6):MySort.j32 P w A s us (λp=>p=TS.sN k) Õ4 where
 len:=by rw[hd.len,h70,È,þ];exact Þ (Ë6 (-0) h8) (-0)
 few h2:=by
  rw[hd.len,h70,È,þ] at h2 ⊢;cases k with
  |zero=>rfl|succ k=>have:=Nat.one_le_two_pow (n:=k);rw[pow_succ] at h2;omega
 all p hp:=by subst hp;rw[hd.len,h70,È,þ,n22 h8]
 kind h2 E Q q:=by
  have ht:∀ i v,us[i]?=some v->∃ xs n a o,v=.ref a/\s.heap.get? a=some o/\o.cls=.type "tuple"/\o.data=.seq xs n/\(i=0->xs=#[]):=λi v e=>by
   have hi:i < us.length:=(Ú.mp e).1;have hi':i < 2 ^ k:=by rw[hd.len,h70,È,þ] at hi;exact hi
   obtain⟨_,as,r⟩:=hd.get (v40 hi');have e2:us.getD i â=v:=by rw[Ó,e];rfl
   rw[e2] at r;have z0:∀ k,TS.D20 k 0 0=[]:=λk=>by
    have:∀ k i,TS.D20 k i 0=[]:=λk=>by
     induction k with
     |zero=>exact λ_=>rfl|succ k ih=>exact λi=>ih (i + 1)
    exact this k 0
   cases i with
   |zero =>
    have r:Reads s.heap v (toP (.tup ((TS.D20 k 0 0).map λ(i:Nat)=>.int i))) as:=r;rw[z0] at r;cases r with
    | @tuple a o vs n xs as k1 k2 k3 k4 =>
     have:vs.toList=[]:=by cases hv:vs.toList with | nil=>rfl | cons _ _=>rw[hv] at k4;cases k4
     exact⟨vs,n,a,o,rfl,k1,k2,k3,λ_=>Array.toList_eq_nil_iff.mp this⟩
   |succ i =>
    cases r with
    | @tuple a o vs n xs as k1 k2 k3 k4=>exact⟨vs,n,a,o,rfl,k1,k2,k3,λe=>by cases e⟩
  match us,ht with
  |[],_=>simp at h2
  |v::vs,ht =>
   obtain⟨xs,n,a,o,rfl,h1,h3,h4,h5⟩:=ht 0 v rfl;cases h5 rfl;refine Y71 h1 h3 h4 (λu hu=>?_) q;obtain⟨i,hi,rfl⟩:=List.mem_iff_getElem.mp hu;obtain⟨xs,n,a,o,e,h1,h3,h4,_⟩:=ht (i + 1) vs[i] (by simp[hi])
   exact⟨a,o,xs,n,e,h1,h3,h4⟩
 run h2:=by
  have hl:us.length=2 ^ k:=by rw[hd.len,h70,È,þ]
  have h1:1<=k:=by
   cases k with
   |zero=>rw[hl] at h2;exact absurd h2 (-0)|succ k=>omega
  refine TS.runL h1 h8 hl λi j C hi hj hC=>?_;have e1:=kas_item_eq us i;have e2:=kas_item_eq us j;show Ñ (Ö P w) A (keyLt' Õ4 (ñ (pairsOf us) i).1 (ñ (pairsOf us) j).1) C _ s;rw[e1,e2];obtain⟨f1,as,r1⟩:=hd.get (v40 hi);obtain⟨f2,bs,r2⟩:=hd.get (v40 hj);show Ñ (Ö P w) A (keyLt' Õ4 (us.getD i â) (us.getD j â)) C _ s;generalize us.getD i â=v at r1;generalize us.getD j â=u at r2;cases r1 with
  |tuple p1 p2 p3 p4 =>
   cases r2 with
   |tuple q1 q2 q3 q4 =>
    refine n42 ⟨_,p1,p2,_,p3⟩ ⟨_,q1,q2,_,q3⟩ ∅ ((Y11 40).2 _ _ _ _ _ ?_ ⟨f1,_,p4⟩ ⟨f2,_,q4⟩ (u91 _ _) ∅) hC
    have:∀ l:List Nat,f10 (l.map λ(i:Nat)=>.int i)=0:=λl=>by
     induction l with
     |nil=>rfl|cons x r ih=>show Ò1 0 _=0;rw[ih];rfl
    rw[this];decide
end
section
variable {X:Cx}
theorem Y81{zA:Option Æ}{H:Hp}{k:Nat}{xs:List V}(hu:X.A.units + 64 < Å6)(hd:HdA X.K H (h70 k) xs)(h8:k<=8):V91 X H xs (λp=>p=TS.sN k):=by
 intro pins σ s us I rv;have ci:∀ l:List Nat,e10 (l.map λ(i:Nat)=>.int i)=true/\X30 (l.map λ(i:Nat)=>.int i) (l.map λ(i:Nat)=>.int i)=true:=λl=>by
  induction l with
  |nil=>exact⟨rfl,rfl⟩|cons x r ih=>exact⟨ih.1,by show((x:Int) == (x:Int)&&_)=true;rw[ih.2];simp⟩
 have cl:∀ l:List Nat,e10 (l.map (n30 k))=true/\X30 (l.map (n30 k)) (l.map (n30 k))=true:=λl=>by
  induction l with
  |nil=>exact⟨rfl,rfl⟩
  |cons x r ih =>
   refine⟨?_,?_⟩
   ·show(e10 _&&_)=true;rw[(ci _).1,ih.1];rfl
   ·show(X30 _ _&&_)=true;rw[(ci _).2,ih.2];rfl
 obtain⟨as,ra⟩:=E10 I hd rv (cl _).1;exact⟨Õ4,λh' kp=>n52 h8 ⟨(cl _).1,_,o40 kp _ (cl _).2 ra⟩ (by show X.A.units + 1 + 1 + 40 < Å6;omega)⟩
theorem Y91{zA:Option Æ}{H:Hp}{l:List D}{xs:List V}(hu:X.A.units + 64 < Å6)(hd:HdA X.K H l xs)(h64:l.length < 64)(ok:z50 l=true):V91 X H xs (MySort.sortedBy (l.map flt)):=by
 intro pins σ s us I rv
 replace h64:us.length < 64:=by rw[← rv.length,hd.length];exact h64
 have all:∀ x∈l,t71 x < 3/\okD x=true/\∀ y∈l,u90 x y=true:=λx hx=>by
  have:=ç.mp ok x hx;rw[Á,Á,decide_eq_true_eq,Ã6] at this;exact⟨this.1,this.2.1,this.2.2⟩
 have hf:e10 l=true:=by
  clear hd
  induction l with
  |nil=>rfl
  |cons x r ih =>
   have h1:=(v00 (all x Ê).2.1).1;show(t30 x&&e10 r)=true;rw[h1];have ok':z50 r=true:=ç.mpr λy hy=>by
    obtain⟨a,b,c⟩:=all y (É _ hy);rw[Á,Á,decide_eq_true_eq,Ã6];exact⟨a,b,λz hz=>c z (É _ hz)⟩
   exact ih ok' λy hy=>⟨(all y (É _ hy)).1,(all y (É _ hy)).2.1,λz hz=>(all y (É _ hy)).2.2 z (É _ hz)⟩
 obtain⟨as,ra⟩:=E10 I hd rv hf;have pure:X30 l l=true:=by
  clear hd ra hf ok;have:∀ q:List D,(∀ x∈q,eqT x x=true)->X30 q q=true:=λq=>by
   induction q with
   |nil=>intro _;rfl|cons x r ih=>intro h;show(eqT x x&&X30 r r)=true;rw[h x Ê,ih λy hy=>h y (É _ hy)];rfl
  refine this l λx hx=>?_;have h:=(all x hx).2.2 x hx;unfold u90 at h;rw[Á,Á,Å5] at h;rcases h.2.2 with k | k
  ·exact k
  ·simp at k
 cases l with
 |nil=>exact⟨kdOf 0,λh' kp=>Q11 h64 ⟨hf,_,o40 kp _ pure ra⟩ (by show X.A.units + 1 + 1 + 40 < Å6;omega) (-0) (λx hx=>absurd hx (by simp)) (λx hx=>absurd hx (by simp)) λx hx=>absurd hx (by simp)⟩
 |cons x r =>
  have hx:=all x Ê;exact⟨kdOf (t71 x),λh' kp=>Q11 h64 ⟨hf,_,o40 kp _ pure ra⟩ (by show X.A.units + 1 + 1 + 40 < Å6;omega) hx.1 (λy hy=>(a11 (hx.2.2 y hy)).1) (λy hy=>(all y hy).2.1) λy hy=>(all y hy).2.2⟩
theorem v01(hu:X.A.units + 64 < Å6):f50 X (.builtin "sorted") (rDn X.K (bfD .sorted)):=by
 intro pins s σ H xs us Q I r h;obtain⟨zA,z,ds,w,st,hx,e,q⟩:=h
 match ds,e with
 |[x],e =>
  have e:sortedS x=some w:=e;unfold sortedS at e;obtain⟨l,h1,e⟩:=Ì.mp e;obtain⟨v,rfl,hv⟩:=hx.one;have go:∀ (a:Æ) (ys:List V),v=.ref a->(SqL X.K H a ys∨SqT X.K H a ys)->HdA X.K (hz zA H) l ys->Ñ (Ö X.prog X.w) X.A (call (.builtin "sorted") us) (EP X pins σ Q) X.xe s:=λa ys hva hq hd=>by
   subst hva;by_cases c:l.length < 64/\z50 l=true
   ·rw[if_pos c] at e;cases e;obtain⟨h64,ok⟩:=c;refine z40 pins s σ H _ us Q I r ⟨a,ys,MySort.sortedBy (l.map flt),rfl,hq,Y91 (zA:=zA) hu (hd.same (a30 zA H)) h64 ok,λp hp i hi=>by have:=hp.1.mem_iff.mp hi;rw[hd.length];simpa using this,λp lA hp hn=>?_⟩
    have hd2:=hd.pick (p:=p) λi hi=>by have:=hp.1.mem_iff.mp hi;simpa using this
    rw[Y41 (λx hx y hy=>?_) hp] at hd2
    ·exact q _ _ (a20.new _ hn) (s30 st hd2 hn)
    ·have:=ç.mp ok x hx;rw[Á,Á,Ã6] at this;exact(a11 (this.2.2 y hy)).2.2
   ·rw[if_neg c] at e;obtain⟨l',e1,rfl⟩:=Í.mp e;obtain⟨k,e2,rfl⟩:=Í.mp e1;have e3:=Z80 _ _ (List.find?_some (p:=λk=>X30 l (h70 k)) e2);have k8:k<=8:=by have:=List.mem_of_find?_eq_some e2;simp at this;omega
    subst e3;refine z40 pins s σ H _ us Q I r ⟨a,ys,λp=>p=TS.sN k,rfl,hq,Y81 (zA:=zA) hu (hd.same (a30 zA H)) k8,λp hp i hi=>?_,λp lA hp hn=>?_⟩
    ·subst hp;rw[hd.length,h70,È,þ];exact Y61 k8 i hi
    ·subst hp;have hd2:=hd.pick (p:=TS.sN k) λi hi=>by rw[h70,È,þ];exact Y61 k8 i hi
     rw[n32 k8] at hd2;exact q _ _ (a20.new _ hn) (s30 st hd2 hn)
  cases x with
  |tup m =>
   cases h1;obtain⟨a,ys,rfl,k1,k2⟩:=hv.D90;exact go a ys rfl (.inr ((a30 zA H).sqT k1)) k2
  |lst m =>
   cases h1;obtain⟨a,ys,rfl,k1,k2⟩:=hv.f21;exact go a ys rfl (.inl (k1.same (a30 zA H)).sq) k2
  |_=>cases h1
end
structure Gs where
 fns:List (Str × List Str)
 nums:List (Str × Int)
 F:FT
 cls:Nat->Addr
 lv:Nat
def EPost(G:Gs)(zA:Option Æ)(E:XK)(c:Nat)(z:Z)(H:Hp):Prop:=∀ e H',Ext zA H H'->d50 zA z H'->H' e=none->E (.ref (G.cls c)) (some e) H'
theorem EPost.mono(h:EPost G zA E c z H)(e:Ext zA H H1):EPost G zA E c z H1:=λa H' x s n=>h a H' (e.trans x) s n
def z82(K:Â)(G:Gs)(zA:Option Æ)(E:XK)(H:Hp)(Q:VK):R S->Prop
 |.ok s z'=>∀ v H',Ext zA H H'->d50 zA z' H'->RvS K zA H H' s v->Q v H'|.er c z'=>EPost G zA E c z' H
def a21(K:Â)(G:Gs)(zA:Option Æ)(E:XK)(H:Hp)(Q:VK):R (List S)->Prop
 |.ok l z'=>∃ s,l=[s]/\∀ v H',Ext zA H H'->d50 zA z' H'->RvS K zA H H' s v->Q v H'|.er c z'=>EPost G zA E c z' H
def z92(K:Â)(G:Gs)(zA:Option Æ)(E:XK)(H:Hp)(Q:List V->Hp->Prop):R (List S)->Prop
 |.ok l z'=>∀ vs H',Ext zA H H'->d50 zA z' H'->Ä5 (RvS K zA H H') l vs->Q vs H'|.er c z'=>EPost G zA E c z' H
def J81(G:Gs)(zA:Option Æ)(E:XK)(H:Hp)(Q:Bool->Hp->Prop):R (List S)->Prop
 |.ok l z'=>∃ b,l=[.d (.bl b)]/\∀ H',Ext zA H H'->d50 zA z' H'->Q b H'|.er c z'=>EPost G zA E c z' H
def z60(K:Â)(zA:Option Æ)(H:Hp)(ρ:Env)(σ:L2.St):Prop:=∀ (i:Nat) (s:S),ρ[i]?=some (some s)->∃ v,σ[i]?=some (some v)/\RvP K zA H s v
theorem z60.mono{K:Â}{zA:Option Æ}{H H':Hp}{ρ:Env}{σ:L2.St}(h:z60 K zA H ρ σ)(e:Ext zA H H'):z60 K zA H' ρ σ:=λi s q=>let ⟨v,a,b⟩:=h i s q;⟨v,a,b.mono e⟩
def tI(K:Â)(G:Gs)(E:XK)(x:Ex):TE:=λσ H Q=>∃ zA ρ z r,z60 K zA H ρ σ/\d50 zA z H/\ev G.F x ρ z=some r/\a21 K G zA E H Q r
def tA(K:Â)(G:Gs)(E:XK)(x:Ex):TA:=λσ H Q=>∃ zA ρ z r,z60 K zA H ρ σ/\d50 zA z H/\ev G.F x ρ z=some r/\z92 K G zA E H Q r
def tT(K:Â)(G:Gs)(E:XK)(x:Ex):TT:=λσ H Q=>∃ zA ρ z r,z60 K zA H ρ σ/\d50 zA z H/\ev G.F x ρ z=some r/\J81 G zA E H Q r
def spF(K:Â)(G:Gs)(f n:Nat):Sp:=λvs H Q E=>vs.length=n/\∃ zA z ss r,RvA K zA H ss vs/\d50 zA z H/\G.F false f ss z=some r/\z82 K G zA E H Q r
section
variable {K:Â}{G:Gs}{E:XK}{a x:Ex}{ρ:Env}{z:Z}{zA:Option Æ}{σ:L2.St}{H:Hp}
theorem k80{α:Type}{k:List S->M α}{r:R α}{Q':VK}(rel:z60 K zA H ρ σ)(st:d50 zA z H)(h:M.bind (ev G.F a ρ) k z=some r)(her:∀ c z1,r=.er c z1->EPost G zA E c z1 H)
  (hok:∀ l z1,k l z1=some r->∃ s,l=[s]/\∀ v H1,Ext zA H H1->d50 zA z1 H1->RvS K zA H H1 s v->Q' v H1):tI K G E a σ H Q':=by
 rcases M.bind_some h with ⟨l,z1,e1,e2⟩ | ⟨c,z1,e1,e2⟩
 ·exact⟨zA,ρ,z,_,rel,st,e1,hok l z1 e2⟩
 ·exact⟨zA,ρ,z,_,rel,st,e1,her c z1 e2⟩
theorem m81{α:Type}{k:List S->M α}{r:R α}{Q':List V->Hp->Prop}(rel:z60 K zA H ρ σ)(st:d50 zA z H)(h:M.bind (ev G.F a ρ) k z=some r)(her:∀ c z1,r=.er c z1->EPost G zA E c z1 H)
  (hok:∀ l z1,k l z1=some r->∀ vs H1,Ext zA H H1->d50 zA z1 H1->Ä5 (RvS K zA H H1) l vs->Q' vs H1):tA K G E a σ H Q':=by
 rcases M.bind_some h with ⟨l,z1,e1,e2⟩ | ⟨c,z1,e1,e2⟩
 ·exact⟨zA,ρ,z,_,rel,st,e1,hok l z1 e2⟩
 ·exact⟨zA,ρ,z,_,rel,st,e1,her c z1 e2⟩
theorem S40{α:Type}{k:Bool->M α}{r:R α}{Q':Bool->Hp->Prop}(rel:z60 K zA H ρ σ)(st:d50 zA z H)(h:M.bind (ev G.F a ρ) (λx=>M.bind (M.of ((pl x).bind asB)) k) z=some r)(her:∀ c z1,r=.er c z1->EPost G zA E c z1 H)
  (hok:∀ b z1,k b z1=some r->∀ H1,Ext zA H H1->d50 zA z1 H1->Q' b H1):tT K G E a σ H Q':=by
 rcases M.bind_some h with ⟨l,z1,e1,e2⟩ | ⟨c,z1,e1,e2⟩
 ·obtain⟨b,e3,e4⟩:=M.a10 e2;obtain⟨d,e5,e6⟩:=Ì.mp e3;have el:l=[.d (.bl b)]:=by
   obtain⟨s,rfl,hs⟩:=g60 e5;cases s with
   |d y=>cases hs;cases d <;> first | (cases e6;rfl) | cases e6
   |fr ys=>cases hs;cases e6
   |_=>cases hs
  exact⟨zA,ρ,z,_,rel,st,e1,b,el,hok b z1 e4⟩
 ·exact⟨zA,ρ,z,_,rel,st,e1,her c z1 e2⟩
theorem E40{l:List S}{s:S}(h:one l=some s):l=[s]:=by
 unfold one at h;split at h
 ·cases h;rfl
 ·cases h
end
theorem PE.imp(h:PE X e t)(i:∀ σ H Q,t' σ H Q->t σ H Q):PE X e t':=λpins s σ H Q I q=>h pins s σ H Q I (i _ _ _ q)
theorem PT.imp(h:PT X e t)(i:∀ σ H Q,t' σ H Q->t σ H Q):PT X e t':=λpins s σ H Q I q=>h pins s σ H Q I (i _ _ _ q)
theorem PW.imp(h:PW X e t)(i:∀ σ H Q,t' σ H Q->t σ H Q):PW X e t':=λw pins s σ H Q I q=>h w pins s σ H Q I (i _ _ _ q)
theorem PA.imp(h:PA X e t)(i:∀ σ H Q,t' σ H Q->t σ H Q):PA X e t':=λp pins s σ H Q I q=>h p pins s σ H Q I (i _ _ _ q)
def noStar:Ï->Bool
 |.Starred ..=>false|_=>true
theorem c20(h:noStar e=true)(es:List Ï)(env:Ç4):ó (e::es) env=(false,eval e env)::ó es env:=by
 cases e <;> first | rfl | cases h
theorem q70:∀ {es:List Ï} (env:Ç4) (pos:Pos),es.all noStar=true->(Ñ9 pos (ó es env)).any (·.1)=false
 |[],_,_,_=>rfl
 |e::es,env,pos,h=>by
  rw[Â1,Á] at h;rw[c20 h.1];show(false || (Ñ9 pos (ó es env)).any (·.1))=false;rw[q70 env pos h.2];rfl
def plainT:Ï->Bool
 |.UnaryOp .Not _ _=>false|.BoolOp ..=>false|.IfExp ..=>false|.Compare ..=>false|_=>true
theorem v21(h:plainT e=true)(env:Ç4)(whole:Sem Ã):isTrue e env whole=(do let v ← whole;standAt e.pos;Ú1 [v] (truthy v)):=by
 cases e with
 |UnaryOp op _ _=>cases op <;> first | rfl | cases h
 |BoolOp _ _ _=>cases h
 |IfExp _ _ _ _=>cases h
 |Compare _ _ _ _=>cases h
 |_=>rfl
def a31:Ï->Bool
 |.Slice ..=>false|_=>true
theorem H40(h:a31 e=true):q41 e:=λo i=>by
 cases e with
 |Slice _ _ _ _=>cases h
 |_=>rfl
def B40:Ï->Bool
 |.Set ..=>false|_=>true
theorem v31(h:B40 e=true)(op:CmpOp):behindInMarks op e=false:=by
 cases e with
 |Set _ _ _=>cases h
 |_=>rfl
structure b20(X:Cx)(G:Gs)(E:XK)(x:Ex)(e:Expr):Prop where
 pe:PE X e (tI X.K G E x)
 pt:(∀ t a b p,e≠.IfExp t a b p)->PT X e (tT X.K G E x)
 pw:∀ op vs p,e=.BoolOp op vs p->PW X e (tT X.K G E x)
theorem b30(h:PE X e (tI X.K G E x))(hp:plainT e=true):b20 X G E x e:=by
 refine⟨h,λ_=>PT.imp (o81 h (v21 hp X.env)) λσ H Q q=>?_,λop vs p he=>?_⟩
 ·obtain⟨zA,ρ,z,r,rel,st,e,po⟩:=q;refine⟨zA,ρ,z,r,rel,st,e,?_⟩;cases r with
  |er c z1=>exact po
  |ok l z1 =>
   obtain⟨b,rfl,po⟩:=po;exact⟨_,rfl,λv H' ex st' rv=>⟨b,Hd.bl_ (show Hd X.K (hz zA H') (.bl b) v from rv),po H' ex st'⟩⟩
 ·subst he;cases hp
def isL:Ex->Bool
 |.nil=>true|.cons _ _=>true|_=>false
def Good(X:Cx)(G:Gs)(E:XK):Ex->List Ï->Prop
 |.nil,es=>es=[]|.cons a r,es=>∃ e es',es=e::es'/\noStar e=true/\b20 X G E a e/\isL r=true/\Good X G E r es'|x,es=>∃ e,es=[e]/\b20 X G E x e
theorem Good.args:∀ {x:Ex}{es:List Ï},isL x=true->Good X G E x es->PA X es (tA X.K G E x)/\es.all noStar=true:=by
 intro x
 induction x with
 |nil =>
  intro es _ h;have h:es=[]:=h;subst h;refine⟨PA.imp r70 λσ H Q q=>?_,rfl⟩;obtain⟨zA,ρ,z,r,rel,st,e,po⟩:=q;cases e;exact po [] H Ext.refl st .nil
 |cons a r _ ih =>
  intro es _ h;obtain⟨e,es',rfl,ns,g,lr,gr⟩:=h;obtain⟨h1,h2⟩:=ih lr gr;refine⟨PA.imp (d40 g.pe h1 (c20 ns es' X.env)) λσ H Q q=>?_,by rw[Â1,ns,h2];rfl⟩
  obtain⟨zA,ρ,z,rr,rel,st,e,po⟩:=q;have her:∀ c z1,rr=.er c z1->EPost G zA E c z1 H:=λc z1 e=>by subst e;exact po
  refine k80 rel st e her λl z1 e1=>?_;obtain⟨s,hs,e2⟩:=M.a10 e1;refine⟨s,E40 hs,λv H1 x1 st1 rv=>?_⟩;refine m81 (rel.mono x1) st1 e2 (λc z2 q=>(her c z2 q).mono x1) λl2 z2 e3 vs H2 x2 st2 rvs=>?_;cases e3;exact po (v::vs) H2 (x1.trans x2) st2 (.cons (rv.mono x2) (Ä5.S51 rvs λ_ _ q=>q.from x1))
 |_=>intro es h;cases h
def Z01:List Str:=["len","sorted","tuple","list","sum","min","max","abs","all","any","int","bool","str","isinstance","range","zip","enumerate","set"]
def lowG(G:Gs)(k:Nat):Gs:={ G with F:=j40 G.F,lv:=k }
structure A02(X:Cx)(G:Gs)(sc:Scope)(c P:Addr)(q:Str)(k:Nat)(fR:Addr)(fdR:FuncData):Prop where
 sco:X.env.scope=sc
 code:X.env.code=.ref c
 hd:PySem.W.codeHdIn X.K c P=true
 qual:X.env.qual++"<lambda>"=q
 tb:(P,q)∈TB.tb
 uq:∀ p∈TB.tb,p.1=P->p.2=q
 bm:BMain X.mg X.base
 lv:G.lv=k + 2
 cls:∀ j,j < 12->R30 X.K X.mg (G.cls j) j
 m:X.mg "_law_refused"=some (.ref fR)
 kp:PySem.W.keepIn X.K (.ref fR)=true
 bd:Binds X.K fdR ["_law_call"] []
 fn:m21 X.prog X.w X.K X.mg X.base CX0 (k + 2) fR fdR ["_law_call"] (W71 X.prog X.w X.K X.mg X.base (k + 1))
 low:∀ f nm ps,G.fns[f]?=some (nm,ps)->∃ fa fd,X.mg nm=some (.ref fa)/\PySem.W.keepIn X.K (.ref fa)=true/\Binds X.K fd ps []/\P40 X.prog X.w X.K X.mg X.base (CX1 X.prog X.w) k fa fd ps (spF X.K (lowG G k) f ps.length)
def A12(X:Cx)(G:Gs)(sc:ú):Prop:=∃ c P q k fR fdR,A02 X G sc c P q k fR fdR
structure XI(lm:Bool)(X:Cx)(G:Gs)(E:XK)(N:List Str)(sc:Scope):Prop where
 gok:∀ f nm ps,G.fns[f]?=some (nm,ps)->∃ fa fd,X.mg nm=some (.ref fa)/\PySem.W.keepIn X.K (.ref fa)=true/\Binds X.K fd ps []/\P40 X.prog X.w X.K X.mg X.base (CX1 X.prog X.w) G.lv fa fd ps (spF X.K G f ps.length)
 fna:∀ (f:Nat) (nm:Str) (ps:List Str),G.fns[f]?=some (nm,ps)->∀ a,X.mg nm=some (.ref a)->PySem.W.nsIn X.K mainGlobals nm=some (some (.ref a))
 num:∀ p∈G.nums,∃ t,X.mg p.1=some (.int p.2 t)
 blt:∀ n∈Z01,X.mg n=none
 hN:X.N=N
 nd:N.Nodup
 vis:∀ x∈N,Vis X.env.scope x
 glb:∀ x,sc.names.lookup x=some .globalImplicit->Gl X x
 cel:∀ x,(sc.names.lookup x=some .cell∨sc.names.lookup x=some .free)->(X.env.kindOf x=some .cell∨X.env.kindOf x=some .free)
 calm:X.calm=true
 room:z30 G.lv X.A
 pas:Passes (CX1 X.prog X.w) X E
 lam:lm=true->A12 X G sc
def glob(sc:ú)(x:Str):Bool:=sc.names.lookup x == some .globalImplicit&&!(x == ("__debug__":Str))&&!(x == ("__name__":Str))
def c40(x:Str):Bool:=!(x == ("__debug__":Str))&&!(x == ("__classdict__":Str))
def n62:Const->D->Bool
 |.int i,.int j=>i == j|.bool a,.bl b=>a == b|.str x,.str y=>x == y|.none,.non=>true|_,_=>false
def bfN:Bf->Str × Bool
 |.len=>("len",false) | .sorted=>("sorted",false) | .tuple=>("tuple",true) | .list=>("list",true) | .sum=>("sum",false) | .min=>("min",false) | .max=>("max",false) | .abs=>("abs",false)|.all=>("all",false) | .int=>("int",true) | .sset=>("sorted",false) | .u12=>("len",false)
def served:Bf->Bool
 |.len | .tuple | .list | .min | .max | .abs | .all | .int | .sorted | .sum=>true|_=>false
mutual
noncomputable def h80(N:List Str)(loc:Str->Bool):Pat->Ï->Bool
 |.v i=>λe=>match e with
  |.Name x _=>N[i]? == some x&&loc x|_=>false
 |.tup ps=>λe=>match e with
  |.Tuple es _ _=>m91 N loc ps es|_=>false
 |.nil=>λ_=>false|.cons _ _=>λ_=>false
noncomputable def m91(N:List Str)(loc:Str->Bool):Pat->List Ï->Bool
 |.nil=>λes=>es.isEmpty
 |.cons p r=>λes=>match es with
  |e::es=>noStar e&&h80 N loc p e&&m91 N loc r es|[]=>false
 |.v _=>λ_=>false|.tup _=>λ_=>false
end
def k90:Ï->Bool
 |.Tuple ..=>true|_=>false
def c80:Ï->List Str
 |.Name x _=>[x]|.Tuple es _ _=>names es|_=>[]
where names:List Ï->List Str
 |[]=>[]|.Name x _::r=>x::names r|.Tuple [.Name a _,.Name b _] _ _::r=>a::b::names r|_::r=>names r
def f91(csc sc:ú)(N own:List Str)(capt:List (Str × Nat)):Bool :=
 csc.kind == .function&&csc.names.all (λy=>y.2 != .cell)&&csc.names.all (λy=>y.2 != .local || csc.names.lookup y.1 == some .local) &&
  csc.names.all (λy=>y.2 != .free || (sc.names.lookup y.1 == some .cell || sc.names.lookup y.1 == some .free))&&capt.all (λp=>N[p.2]? == some p.1&&csc.names.lookup p.1 == some .free) &&
  own.all (λx=>csc.names.lookup x == some .local)&&decide (own++capt.map (·.1)).Nodup
def b50(N:List Str):List Nat->List (Str × Nat)
 |[]=>[]
 |i::r=>match N[i]? with
  |some x=>(x,i)::b50 N r|none=>b50 N r
def opt{α:Type}(o:Option α)(f:α->Bool):Bool:=match o with
 |some a=>f a|none=>false
theorem a50{α:Type}{o:Option α}{f:α->Bool}(h:opt o f=true):∃ a,o=some a/\f a=true:=by
 cases o with
 |none=>cases h
 |some a=>exact⟨a,rfl,h⟩
def I42:(e:List Ï)->Option {q:Str × Pos // e=[.Name q.1 q.2]}
 |[.Name n p]=>some ⟨(n,p),rfl⟩|_=>none
def A22:(e:List Ï)->Option {q:Const × Nat × Pos // e=[.Constant q.1 q.2.1 q.2.2]}
 |[.Constant c k p]=>some ⟨(c,k,p),rfl⟩|_=>none
def A32:(e:List Ï)->Option {q:Pos // e=[.Dict [] [] q]}
 |[.Dict [] [] p]=>some ⟨p,rfl⟩|_=>none
def A42:(e:List Ï)->Option {q:List Ï × Nat × Pos // e=[.Tuple q.1 q.2.1 q.2.2]}
 |[.Tuple l k p]=>some ⟨(l,k,p),rfl⟩|_=>none
def A52:(e:List Ï)->Option {q:List Ï × Pos // e=[.List q.1 q.2]}
 |[.List l p]=>some ⟨(l,p),rfl⟩|_=>none
def A62:(e:List Ï)->Option {q:Ï × Í0 × Ï × Pos // e=[.BinOp q.1 q.2.1 q.2.2.1 q.2.2.2]}
 |[.BinOp l o r p]=>some ⟨(l,o,r,p),rfl⟩|_=>none
def A72:(e:List Ï)->Option {q:Ï × CmpOp × Ï × Pos // e=[.Compare q.1 [q.2.1] [q.2.2.1] q.2.2.2]}
 |[.Compare l [o] [r] p]=>some ⟨(l,o,r,p),rfl⟩|_=>none
def A82:(e:List Ï)->Option {q:Ï × Pos // e=[.UnaryOp .USub q.1 q.2]}
 |[.UnaryOp .USub x p]=>some ⟨(x,p),rfl⟩|_=>none
def A92:(e:List Ï)->Option {q:Ï × Pos // e=[.UnaryOp .Not q.1 q.2]}
 |[.UnaryOp .Not x p]=>some ⟨(x,p),rfl⟩|_=>none
def B02:(e:List Ï)->Option {q:Ï × Ï × List Ï × Pos // e=[.BoolOp .And (q.1::q.2.1::q.2.2.1) q.2.2.2]}
 |[.BoolOp .And (l::r::v) p]=>some ⟨(l,r,v,p),rfl⟩|_=>none
def I52:(e:List Ï)->Option {q:Ï × Ï × List Ï × Pos // e=[.BoolOp .Or (q.1::q.2.1::q.2.2.1) q.2.2.2]}
 |[.BoolOp .Or (l::r::v) p]=>some ⟨(l,r,v,p),rfl⟩|_=>none
def B12:(e:List Ï)->Option {q:Ï × Ï × Ï × Pos // e=[.IfExp q.1 q.2.1 q.2.2.1 q.2.2.2]}
 |[.IfExp t x y p]=>some ⟨(t,x,y,p),rfl⟩|_=>none
def O62:(e:List Ï)->Option {q:Ï × CmpOp × CmpOp × Ï × Ï × Pos // e=[.Compare q.1 [q.2.1,q.2.2.1] [q.2.2.2.1,q.2.2.2.2.1] q.2.2.2.2.2]}
 |[.Compare l [o,o2] [r,s] p]=>some ⟨(l,o,o2,r,s,p),rfl⟩|_=>none
def B22:(e:List Ï)->Option {q:Str × Pos × Ï × List Ï × Pos // e=[.Call (.Name q.1 q.2.1) (q.2.2.1::q.2.2.2.1) [] q.2.2.2.2]}
 |[.Call (.Name n q1) (x::l) [] p]=>some ⟨(n,q1,x,l,p),rfl⟩|_=>none
def B32:(e:List Ï)->Option {q:Str × Pos × Ï × Ï × Pos // e=[.Call (.Name q.1 q.2.1) [q.2.2.1,q.2.2.2.1] [] q.2.2.2.2]}
 |[.Call (.Name n q1) [x,ty] [] p]=>some ⟨(n,q1,x,ty,p),rfl⟩|_=>none
def O72:(e:List Ï)->Option {q:Ï × Ï × Pos // e=[.Subscript q.1 q.2.1 q.2.2]}
 |[.Subscript v x p]=>some ⟨(v,x,p),rfl⟩|_=>none
def O82:(e:List Ï)->Option {q:Ï × Option Ï × Option Ï × Pos × Pos // e=[.Subscript q.1 (.Slice q.2.1 q.2.2.1 none q.2.2.2.1) q.2.2.2.2]}
 |[.Subscript v (.Slice l h none q1) p]=>some ⟨(v,l,h,q1,p),rfl⟩|_=>none
def n72:(e:List Ï)->Option {q:Ï × Ï × Ï × List Ï × ú × Pos // e=[.ListComp q.1 [⟨q.2.1,q.2.2.1,q.2.2.2.1,0⟩] q.2.2.2.2.1 q.2.2.2.2.2]}
 |[.ListComp elt [⟨tg,iter,ifs,0⟩] csc p]=>some ⟨(elt,tg,iter,ifs,csc,p),rfl⟩|_=>none
def e92:(e:Ï)->Option {q:Str × Pos × Ï × Pos // e=.Call (.Name q.1 q.2.1) [q.2.2.1] [] q.2.2.2}
 |.Call (.Name n q1) [a] [] p=>some ⟨(n,q1,a,p),rfl⟩|_=>none
def f02:(e:Ï)->Option {q:Str × Pos × Ï × Ï × Pos // e=.Call (.Name q.1 q.2.1) [q.2.2.1,q.2.2.2.1] [] q.2.2.2.2}
 |.Call (.Name n q1) [a,b] [] p=>some ⟨(n,q1,a,b,p),rfl⟩|_=>none
def shN:(e:Ï)->Option {q:Str × Pos // e=.Name q.1 q.2}
 |.Name n p=>some ⟨(n,p),rfl⟩|_=>none
def I62:(e:Ï)->Option {q:Str × Pos × Str × Pos × Nat × Pos // e=.Tuple [.Name q.1 q.2.1,.Name q.2.2.1 q.2.2.2.1] q.2.2.2.2.1 q.2.2.2.2.2}
 |.Tuple [.Name a q1,.Name b q2] k p=>some ⟨(a,q1,b,q2,k,p),rfl⟩|_=>none
def O92:(e:List Ï)->Option {q:Str × Pos × Int × Nat × Pos × Pos // e=[.Subscript (.Name q.1 q.2.1) (.Constant (.int q.2.2.1) q.2.2.2.1 q.2.2.2.2.1) q.2.2.2.2.2]}
 |[.Subscript (.Name n p) (.Constant (.int j) c q1) r]=>some ⟨(n,p,j,c,q1,r),rfl⟩|_=>none
def P02:(e:List Ï)->Option {q:Str × Pos × Str × Pos × List Ï × Pos × Pos // e=[.Call (.Name q.1 q.2.1) [.Call (.Name q.2.2.1 q.2.2.2.1) q.2.2.2.2.1 [] q.2.2.2.2.2.1] [] q.2.2.2.2.2.2]}
 |[.Call (.Name n p) [.Call (.Name m q1) l [] r] [] t]=>some ⟨(n,p,m,q1,l,r,t),rfl⟩|_=>none
def B42:(e:List Ï)->Option {q:Str × Pos × Ï × ú × Pos × Pos // e=[.Call (.Name q.1 q.2.1) [.Lambda ⟨[],[],none,[],[],none,[]⟩ q.2.2.1 q.2.2.2.1 q.2.2.2.2.1] [] q.2.2.2.2.2]}
 |[.Call (.Name n p) [.Lambda ⟨[],[],none,[],[],none,[]⟩ b c l] [] t]=>some ⟨(n,p,b,c,l,t),rfl⟩|_=>none
def tyE(sc:ú):Ty->Ï->Bool
 |.seq=>λe=>opt (I62 e) λq=>q.1.1 == ("tuple":Str)&&q.1.2.2.1 == ("list":Str)&&glob sc "tuple"&&glob sc "list"|t=>λe=>opt (shN e) λq=>q.1.1 == À6 (tyN t)&&glob sc (À6 (tyN t))
def n82:D->Bool
 |.dct=>true|_=>false
def ifB:Ï->Bool
 |.IfExp ..=>true|_=>false
def Z11(lsc sc:ú)(cs:List (Str × Nat)):Bool :=
 lsc.kind == .function&&!lsc.isCoroutine&&!lsc.isGenerator&&lsc.names.all (λy=>y.2 != .cell)&&lsc.names.all (λy=>y.2 != .free || sc.names.lookup y.1 == some .cell)&&cs.all (λp=>lsc.names.lookup p.1 == some .free)&&decide (cs.map (·.1)).Nodup
def mt:Bool->List (Str × List Str)->List (Str × Int)->Ex->ú->List Str->List Ï->Bool
 |lm,fns,nums,.nil=>λ_ _ es=>es.isEmpty
 |lm,fns,nums,.cons a r=>λsc N es=>match es with
  |e::es=>noStar e&&!isL a&&isL r&&mt lm fns nums a sc N [e]&&mt lm fns nums r sc N es|[]=>false
 |lm,fns,nums,.var i=>λ_ N es=>opt (I42 es) λq=>N[i]? == some q.1.1&&c40 q.1.1|lm,fns,nums,.con d=>λ_ _ es=>(opt (A22 es) λq=>n62 q.1.1 d) || opt (A32 es) λ_=>n82 d|lm,fns,nums,.gint g i=>λsc _ es=>opt (I42 es) λq=>q.1.1 == g&&glob sc q.1.1&&nums.contains (g,i)|lm,fns,nums,.tup as=>λsc N es=>opt (A42 es) λq=>isL as&&mt lm fns nums as sc N q.1.1|lm,fns,nums,.lst as=>λsc N es=>opt (A52 es) λq=>isL as&&mt lm fns nums as sc N q.1.1|lm,fns,nums,.bin o a b=>λsc N es=>opt (A62 es) λq=>q.1.2.1 == opB o&&!isL a&&!isL b&&mt lm fns nums a sc N [q.1.1]&&mt lm fns nums b sc N [q.1.2.2.1]|lm,fns,nums,.cmp o a b=>λsc N es=>opt (A72 es) λq=>q.1.2.1 == opC o&&B40 q.1.2.2.1&&!isL a&&!isL b&&mt lm fns nums a sc N [q.1.1]&&mt lm fns nums b sc N [q.1.2.2.1]|lm,fns,nums,.neg a=>λsc N es=>opt (A82 es) λq=>!isL a&&mt lm fns nums a sc N [q.1.1]|lm,fns,nums,.not a=>λsc N es=>opt (A92 es) λq=>!isL a&&!ifB q.1.1&&mt lm fns nums a sc N [q.1.1]|lm,fns,nums,.and a b=>λsc N es=>opt (B02 es) λq=>!isL a&&!isL b&&!ifB q.1.1&&mt lm fns nums a sc N [q.1.1]&&(if q.1.2.2.1.isEmpty then !ifB q.1.2.1&&mt lm fns nums b sc N [q.1.2.1] else mt lm fns nums b sc N [.BoolOp .And (q.1.2.1::q.1.2.2.1) q.1.2.2.2])|lm,fns,nums,.or a b=>λsc N es=>opt (I52 es) λq=>!isL a&&!isL b&&!ifB q.1.1&&mt lm fns nums a sc N [q.1.1]&&(if q.1.2.2.1.isEmpty then !ifB q.1.2.1&&mt lm fns nums b sc N [q.1.2.1] else mt lm fns nums b sc N [.BoolOp .Or (q.1.2.1::q.1.2.2.1) q.1.2.2.2])|lm,fns,nums,.orT a b=>λsc N es=>opt (I52 es) λq=>!isL a&&!isL b&&q.1.2.2.1.isEmpty&&mt lm fns nums a sc N [q.1.1]&&mt lm fns nums b sc N [q.1.2.1]|lm,fns,nums,.ite c a b=>λsc N es=>opt (B12 es) λq=>!isL c&&!isL a&&!isL b&&!ifB q.1.1&&mt lm fns nums c sc N [q.1.1]&&mt lm fns nums a sc N [q.1.2.1]&&mt lm fns nums b sc N [q.1.2.2.1]|lm,fns,nums,.ch o o' a b c=>λsc N es=>opt (O62 es) λq=>q.1.2.1 == opC o&&q.1.2.2.1 == opC o'&&B40 q.1.2.2.2.2.1&&!isL a&&!isL b&&!isL c&&mt lm fns nums a sc N [q.1.1]&&mt lm fns nums b sc N [q.1.2.2.2.1]&&mt lm fns nums c sc N [q.1.2.2.2.2.1]|lm,fns,nums,.bf f as=>λsc N es=>opt (B22 es) λq=>served f&&q.1.1 == (bfN f).1&&glob sc q.1.1&&isL as&&mt lm fns nums as sc N (q.1.2.2.1::q.1.2.2.2.1)|lm,fns,nums,.isi t a=>λsc N es=>opt (B32 es) λq=>q.1.1 == ("isinstance":Str)&&glob sc q.1.1&&noStar q.1.2.2.1&&!isL a&&mt lm fns nums a sc N [q.1.2.2.1]&&tyE sc t q.1.2.2.2.1|lm,fns,nums,.idx a i=>λsc N es=>opt (O72 es) λq=>a31 q.1.2.1&&!isL a&&!isL i&&mt lm fns nums a sc N [q.1.1]&&mt lm fns nums i sc N [q.1.2.1]|lm,fns,nums,.sl a lo hi=>λsc N es=>opt (O82 es) λq=>!isL a&&isL lo&&isL hi&&mt lm fns nums a sc N [q.1.1]&&mt lm fns nums lo sc N q.1.2.1.toList&&mt lm fns nums hi sc N q.1.2.2.1.toList|lm,fns,nums,.call f as=>λsc N es=>opt (B22 es) λq=>(opt fns[f]? λp=>p.1 == q.1.1&&p.2.length == q.1.2.2.2.1.length + 1)&&glob sc q.1.1&&isL as&&mt lm fns nums as sc N (q.1.2.2.1::q.1.2.2.2.1)
 |lm,fns,nums,.comp own capt p it src cond el=>λsc N es=>opt (n72 es) λq =>
   (c80 q.1.2.1).length == own&&(b50 N capt).length == capt.length&&f91 q.1.2.2.2.2.1 sc N (c80 q.1.2.1) (b50 N capt)&&h80 (c80 q.1.2.1++(b50 N capt).map (·.1)) (λx=>(c80 q.1.2.1).contains x) p q.1.2.1&&isL src&&!isL el&&isL cond&&q.1.2.2.2.1.length<=1&&noStar q.1.1&&B40 q.1.2.2.1 &&
    q.1.2.2.2.1.all (λc=>!ifB c) &&
    (match it with
    |.seq=>mt lm fns nums src sc N [q.1.2.2.1]|.rng1=>opt (e92 q.1.2.2.1) λr=>r.1.1 == ("range":Str)&&glob sc r.1.1&&mt lm fns nums src sc N [r.1.2.2.1]|.rng2=>opt (f02 q.1.2.2.1) λr=>r.1.1 == ("range":Str)&&glob sc r.1.1&&mt lm fns nums src sc N [r.1.2.2.1,r.1.2.2.2.1]|.zip=>opt (f02 q.1.2.2.1) λr=>r.1.1 == ("zip":Str)&&glob sc r.1.1&&k90 q.1.2.1&&mt lm fns nums src sc N [r.1.2.2.1,r.1.2.2.2.1]
    |.enum=>opt (e92 q.1.2.2.1) λr=>r.1.1 == ("enumerate":Str)&&glob sc r.1.1&&k90 q.1.2.1&&mt lm fns nums src sc N [r.1.2.2.1])&&mt false fns nums cond q.1.2.2.2.2.1 (c80 q.1.2.1++(b50 N capt).map (·.1)) q.1.2.2.2.1&&mt false fns nums el q.1.2.2.2.2.1 (c80 q.1.2.1++(b50 N capt).map (·.1)) [q.1.1]
 |lm,fns,nums,.callv i l as=>λsc N es=>opt (B22 es) λq=>N[i]? == some q.1.1&&c40 q.1.1&&l.all (λp=>opt fns[p.2]? λr=>r.1 == p.1&&r.2.length == q.1.2.2.2.1.length + 1)&&isL as&&mt lm fns nums as sc N (q.1.2.2.1::q.1.2.2.2.1)|lm,fns,nums,.lrng b as=>λsc N es=>opt (P02 es) λq=>q.1.1 == lrN b&&q.1.2.2.1 == ("range":Str)&&glob sc (lrN b)&&glob sc "range"&&isL as&&decide (1<=q.1.2.2.2.2.1.length/\q.1.2.2.2.2.1.length<=2)&&mt lm fns nums as sc N q.1.2.2.2.2.1|lm,fns,nums,.zget i k=>λ_ N es=>opt (O92 es) λq=>N[i]? == some q.1.1&&c40 q.1.1&&q.1.2.2.1 == (k:Int)|lm,fns,nums,.refd capt a=>λsc N es=>opt (B42 es) λq=>lm&&q.1.1 == ("_law_refused":Str)&&glob sc "_law_refused"&&(b50 N capt).length == capt.length&&Z11 q.1.2.2.2.1 sc (b50 N capt)&&!isL a&&mt false fns nums a q.1.2.2.2.1 ((b50 N capt).map (·.1)) [q.1.2.2.1]
theorem c90{sc:ú}{x:Str}(h:glob sc x=true):sc.names.lookup x=some .globalImplicit/\(x == ("__debug__":Str))=false/\x≠"__name__":=by
 unfold glob at h;simp only[Á,ð,beq_iff_eq] at h;refine⟨h.1.1,h.1.2,λe=>?_⟩;subst e;simp at h
section
variable {lm:Bool}{X:Cx}{G:Gs}{E:XK}{N:List Str}{sc:ú}
theorem n92{K:Â}{zA:Option Æ}{H0 H:Hp}{s:S}{v:V}(h:RvP K zA H s v):RvS K zA H0 H (plS s) v:=by cases s <;> exact h
theorem Z21(h:(!ifB e)=true):∀ t a b p,e≠.IfExp t a b p:=by
 intro t a b p he;subst he;cases h
theorem b00(hL:isL x=false)(h:Good X G E x [e]):b20 X G E x e:=by
 cases x with
 |nil=>cases hL
 |cons _ _=>cases hL
 |_ =>
  obtain⟨e',h1,h2⟩:=(show ∃ e',[e]=[e']/\b20 X G E _ e' from h);cases h1;exact h2
theorem b80(hL:isL x=false)(h:b20 X G E x e):Good X G E x [e]:=by
 cases x with
 |nil=>cases hL
 |cons _ _=>cases hL
 |_=>exact⟨e,rfl,h⟩
theorem f30(po:a21 X.K G zA E H Q r):∀ c z1,r=.er c z1->EPost G zA E c z1 H:=λc z1 e=>by subst e;exact po
theorem S50(po:J81 G zA E H Q r):∀ c z1,r=.er c z1->EPost G zA E c z1 H:=λc z1 e=>by subst e;exact po
theorem B52(x:XI lm X G E N sc){i:Nat}{n:Str}{pos:Pos}(h1:N[i]?=some n)(h2:c40 n=true):b20 X G E (.var i) (.Name n pos):=by
 unfold c40 at h2;simp only[Á,ð] at h2;refine b30 (PE.imp (o00 (i:=i) (by rw[x.hN];exact h1) (x.vis n (ä h1)) h2.1 h2.2) λσ H Q q=>?_) rfl
 obtain⟨zA,ρ,z,r,rel,st,e,po⟩:=q;have e':(match ρ[i]? with | some (some s)=>M.ret [plS s] | _=>M.no) z=some r:=e
 cases hs:ρ[i]? with
 |none=>rw[hs] at e';cases e'
 |some o =>
  cases o with
  |none=>rw[hs] at e';cases e'
  |some s =>
   rw[hs] at e';cases e';obtain⟨v,hv,rv⟩:=rel i s hs;obtain⟨s',e',po⟩:=po;cases e';exact⟨v,hv,po v H Ext.refl st (n92 rv)⟩
theorem B62(h:n62 c d=true):b20 X G E (.con d) (.Constant c j pos):=by
 refine b30 ?_ rfl;have fin:∀ {v:V},(∀ H,Hd X.K H d v)->∀ σ H Q,tI X.K G E (.con d) σ H Q->tC v σ H Q:=λ{v} hd σ H Q q=>by
  obtain⟨zA,ρ,z,r,rel,st,e,po⟩:=q;cases e;obtain⟨s',e',po⟩:=po;cases e';exact po v H Ext.refl st (D41 (hd _))
 cases c with
 |int i=>cases d <;> first | (simp only[n62,beq_iff_eq] at h;subst h;exact PE.imp d71 (fin λH=>Hd.int)) | (cases h)
 |bool b=>cases d <;> first | (simp only[n62,beq_iff_eq] at h;subst h;exact PE.imp v52 (fin λH=>Hd.bl)) | (cases h)
 |str y=>cases d <;> first | (simp only[n62,beq_iff_eq] at h;subst h;exact PE.imp O11 (fin λH=>Hd.str)) | (cases h)
 |none=>cases d <;> first | exact PE.imp o71 (fin λH=>Hd.non) | (cases h)
 |_=>cases h
theorem B72:b20 X G E (.con .dct) (.Dict [] [] pos):=by
 refine b30 (PE.imp V81 λσ H Q q=>?_) rfl;obtain⟨zA,ρ,z,r,rel,st,e,po⟩:=q;cases e;obtain⟨s',e',po⟩:=po;cases e';intro p hp;refine po _ _ (Ext.of (a20.new _ hp)) (st.same (a20.new _ hp)) (D41 ?_);unfold Hd;exact⟨p,[],rfl,d10 a90 (st.f41 hp)⟩
theorem o02(x:XI lm X G E N sc){g:Str}{i:Int}{pos:Pos}(h1:glob sc g=true)(h2:(g,i)∈G.nums):b20 X G E (.gint g i) (.Name g pos):=by
 obtain⟨k1,k2,_⟩:=c90 h1;obtain⟨t,ht⟩:=x.num _ h2;refine b30 (PE.imp (e00 (v:=.int i) (x.glb g k1) ht ⟨t,rfl⟩ k2) λσ H Q q=>?_) rfl;obtain⟨zA,ρ,z,r,rel,st,e,po⟩:=q;cases e;obtain⟨s',e',po⟩:=po;cases e';exact po _ H Ext.refl st h30
theorem L90{K:Â}{zA:Option Æ}{H0 H:Hp}{l:List S}{vs:List V}{ds:List D}(h:Ä5 (RvS K zA H0 H) l vs)(e:plA l=some ds):HdA K (hz zA H) ds vs:=RvA.ds (Ä5.S51 h λ_ _ q=>q.pl) e
theorem B82{as:Ex}{l:List Ï}{k:Nat}{pos:Pos}(hL:isL as=true)(g:Good X G E as l):b20 X G E (.tup as) (.Tuple l k pos):=by
 refine b30 (PE.imp (O51 (g.args hL).1) λσ H Q q=>?_) rfl;obtain⟨zA,ρ,z,r,rel,st,e,po⟩:=q;refine m81 rel st e (f30 po) λl z1 e1 vs H1 x1 st1 rvs=>?_;obtain⟨ds,hd,e2⟩:=M.a10 e1;split at e2
 ·rename_i hm;cases e2;obtain⟨s',e',po⟩:=po;cases e';have h:=L90 rvs hd;exact⟨e80 (by rw[h.length];exact hm),λp hp=>po _ _ (x1.trans (Ext.of (a20.new _ hp))) (st1.same (a20.new _ hp)) (D41 (Hd.tup ((st1.same (a20.new _ hp)).X11 (SqT.of a90)) (h.same (i60 (a20.new _ hp)))))⟩
 ·cases e2
theorem B92{as:Ex}{l:List Ï}{pos:Pos}(hL:isL as=true)(g:Good X G E as l):b20 X G E (.lst as) (.List l pos):=by
 refine b30 (PE.imp (p81 (g.args hL).1) λσ H Q q=>?_) rfl;obtain⟨zA,ρ,z,r,rel,st,e,po⟩:=q;refine m81 rel st e (f30 po) λl z1 e1 vs H1 x1 st1 rvs=>?_;obtain⟨ds,hd,e2⟩:=M.a10 e1;split at e2
 ·rename_i hm;cases e2;obtain⟨s',e',po⟩:=po;cases e';have h:=L90 rvs hd;exact⟨e80 (by rw[h.length];exact hm),λp hp=>po _ _ (x1.trans (Ext.of (a20.new _ hp))) (st1.same (a20.new _ hp)) ((s30 st1 h hp).from x1)⟩
 ·cases e2
theorem g01{α:Type}{a b:Ex}{k:D->D->M α}{zA:Option Æ}{ρ:Env}{z:Z}{r:R α}{σ:L2.St}{H:Hp}{Q:V->V->Hp->Prop}(rel:z60 X.K zA H ρ σ)(st:d50 zA z H)
  (h:M.bind (ev G.F a ρ) (λx=>M.bind (M.of (pl x)) λx=>M.bind (ev G.F b ρ) λy=>M.bind (M.of (pl y)) λy=>k x y) z=some r) (her:∀ c z1,r=.er c z1->EPost G zA E c z1 H)
  (hk:∀ dx dy z2 v w H2,k dx dy z2=some r->Ext zA H H2->d50 zA z2 H2->Hd X.K (hz zA H2) dx v->Hd X.K (hz zA H2) dy w->Q v w H2) :
  tI X.K G E a σ H λv H1=>tI X.K G E b σ H1 λw H2=>Q v w H2:=by
 refine k80 rel st h her λl z1 e1=>?_;obtain⟨dx,p1,e2⟩:=M.a10 e1;obtain⟨s1,rfl,q1⟩:=g60 p1;refine⟨s1,rfl,λv H1 x1 st1 rv=>?_⟩;refine k80 (rel.mono x1) st1 e2 (λc z2 q=>(her c z2 q).mono x1) λm z2 e3=>?_;obtain⟨dy,p2,e4⟩:=M.a10 e3;obtain⟨s2,rfl,q2⟩:=g60 p2;exact⟨s2,rfl,λw H2 x2 st2 rw'=>hk dx dy z2 v w H2 e4 (x1.trans x2) st2 ((rv.pl.mono x2).d_ q1) (rw'.pl.d_ q2)⟩
theorem f40{zA:Option Æ}{H H2:Hp}{z2:Z}{s:S}{Q:VK}(po:a21 X.K G zA E H Q (.ok [s] z2))(x:Ext zA H H2)(st:d50 zA z2 H2):∀ v H',a20 H2 H'->RvS X.K zA H2 H' s v->Q v H':=λv H' sm rv=>by
 obtain⟨s',e',po⟩:=po;cases e';exact po v H' (x.trans (Ext.of sm)) (st.same sm) (rv.from x)
theorem C02(ga:b20 X G E a l)(gb:b20 X G E b r):b20 X G E (.bin o a b) (.BinOp l (opB o) r pos):=by
 refine b30 (PE.imp (E11 (opD o) ga.pe gb.pe) λσ H Q q=>?_) rfl;obtain⟨zA,ρ,z,rr,rel,st,e,po⟩:=q;refine g01 rel st e (f30 po) λdx dy z2 v w H2 e2 x2 st2 h1 h2=>?_;obtain⟨s,hs,e3⟩:=M.a10 e2;cases e3;exact⟨zA,z2,dx,dy,s,st2,h1,h2,hs,f40 po x2 st2⟩
theorem Q21(po:J81 G zA E H Q r):a21 X.K G zA E H (λx H'=>∃ k,x=.bl k/\Q k H') r:=by
 cases r with
 |er c z1=>exact po
 |ok l z1 =>
  obtain⟨b,rfl,po⟩:=po;exact⟨_,rfl,λv H' ex st' rv=>⟨b,Hd.bl_ (show Hd X.K (hz zA H') (.bl b) v from rv),po H' ex st'⟩⟩
theorem C12(x:XI lm X G E N sc)(hs:B40 r=true)(ga:b20 X G E a l)(gb:b20 X G E b r):b20 X G E (.cmp o a b) (.Compare l [opC o] [r] pos):=by
 have key:∀ σ H Q,tI X.K G E (.cmp o a b) σ H Q->tOp (rD2 X.K λa b=>(B90 o a b).map λc=>.d (.bl c)) (tI X.K G E a) (tI X.K G E b) σ H Q:=λσ H Q q=>by
  obtain⟨zA,ρ,z,rr,rel,st,e,po⟩:=q;refine g01 rel st e (f30 po) λdx dy z2 v w H2 e2 x2 st2 h1 h2=>?_;obtain⟨c,hc,e3⟩:=M.a10 e2;cases e3;exact⟨zA,z2,dx,dy,_,st2,h1,h2,by show Ì6 _ (B90 o dx dy)=_;rw[hc];rfl,f40 po x2 st2⟩
 refine⟨PE.imp (T11 (e82 x.room.units o) ga.pe gb.pe (v31 hs _)) key,λ_=>PT.imp (T21 (e82 x.room.units o) ga.pe gb.pe (v31 hs _)) λσ H Q q=>?_,λop vs p h=>by cases h⟩
 obtain⟨zA,ρ,z,rr,rel,st,e,po⟩:=q;exact key σ H _ ⟨zA,ρ,z,rr,rel,st,e,Q21 po⟩
theorem C22(ga:b20 X G E a l):b20 X G E (.neg a) (.UnaryOp .USub l pos):=by
 refine b30 (PE.imp (w92 i02 ga.pe) λσ H Q q=>?_) rfl;obtain⟨zA,ρ,z,rr,rel,st,e,po⟩:=q;refine k80 rel st e (f30 po) λm z1 e1=>?_;obtain⟨i,p1,e2⟩:=M.a10 e1;obtain⟨d,p2,p3⟩:=Ì.mp p1;obtain⟨s1,rfl,q1⟩:=g60 p2;cases e2;refine⟨s1,rfl,λv H1 x1 st1 rv=>?_⟩;have hd:=rv.pl.d_ q1;cases d with
 |int j =>
  cases p3;exact⟨i,hd.i90,f40 po x1 st1 _ _ (a20.refl H1) h30⟩
 |_=>cases p3
theorem C32(ga:b20 X G E a l)(hn:∀ t x y p,l≠.IfExp t x y p):b20 X G E (.not a) (.UnaryOp .Not l pos):=by
 refine⟨PE.imp (g32 ga.pe) λσ H Q q=>?_,λ_=>PT.imp (O21 (ga.pt hn)) λσ H Q q=>?_,λop vs p h=>by cases h⟩
 ·obtain⟨zA,ρ,z,rr,rel,st,e,po⟩:=q;refine k80 rel st e (f30 po) λm z1 e1=>?_;obtain⟨b,p1,e2⟩:=M.a10 e1;obtain⟨d,p2,p3⟩:=Ì.mp p1;obtain⟨s1,rfl,q1⟩:=g60 p2;cases e2;refine⟨s1,rfl,λv H1 x1 st1 rv=>?_⟩;have hd:=rv.pl.d_ q1;cases d with
  |bl c =>
   cases p3;exact⟨b,hd.bl_,f40 po x1 st1 _ _ (a20.refl H1) j20⟩
  |_=>cases p3
 ·obtain⟨zA,ρ,z,rr,rel,st,e,po⟩:=q;refine S40 rel st e (S50 po) λb z1 e1 H1 x1 st1=>?_;cases e1;obtain⟨b',e',po⟩:=po;cases e';exact po H1 x1 st1
end
end Q
namespace Q
open PySem L2 PySem.Spec PyProof.Rows
variable [TB:Tb]
section
variable {lm:Bool}{X:Cx}{G:Gs}{E:XK}{N:List Str}{sc:ú}
theorem M00(rel:z60 X.K zA H ρ σ)(st:d50 zA z H)
  (h:M.bind (ev G.F a ρ) (λx=>M.bind (M.of ((pl x).bind asB)) k) z=some r) (her:∀ c z1,r=.er c z1->EPost G zA E c z1 H)
  (hok:∀ b z1,k b z1=some r->∀ H1,Ext zA H H1->d50 zA z1 H1->Q' (.bl b) H1):tI X.K G E a σ H Q':=by
 refine k80 rel st h her λm z1 e1=>?_;obtain⟨b,p1,e2⟩:=M.a10 e1;obtain⟨d,p2,p3⟩:=Ì.mp p1;obtain⟨s1,rfl,q1⟩:=g60 p2;refine⟨s1,rfl,λv H1 x1 st1 rv=>?_⟩;have hd:=rv.pl.d_ q1;cases d with
 |bl c =>
  cases p3;rw[hd.bl_];exact hok b z1 e2 H1 x1 st1
 |_=>cases p3
theorem C42(ga:b20 X G E a l)(hl:∀ t x y p,l≠.IfExp t x y p)
  (gb:b20 X G E b (.BoolOp .And (r::vs) p)):b20 X G E (.and a b) (.BoolOp .And (l::r::vs) p):=by
 have pw:PW X (.BoolOp .And (l::r::vs) p) (tT X.K G E (.and a b)):=by
  refine PW.imp (g02 (ga.pt hl) (gb.pw _ _ _ rfl)) λσ H Q q=>?_;obtain⟨zA,ρ,z,rr,rel,st,e,po⟩:=q;refine S40 rel st e (S50 po) λc z1 e1 H1 x1 st1=>?_;cases c with
  |true =>
   rw[if_pos rfl];rw[if_pos rfl] at e1;refine S40 (rel.mono x1) st1 e1 (λc z2 q=>((S50 po) c z2 q).mono x1) λc z2 e2 H2 x2 st2=>?_;cases e2;obtain⟨b',e',po⟩:=po;cases e';exact po H2 (x1.trans x2) st2
  |false =>
   rw[if_neg Ò];rw[if_neg Ò] at e1;cases e1;obtain⟨b',e',po⟩:=po;cases e';exact po H1 x1 st1
 refine⟨PE.imp (g22 ga.pe gb.pe) λσ H Q q=>?_,λ_=>pw.pt,λop vs p h=>pw⟩;obtain⟨zA,ρ,z,rr,rel,st,e,po⟩:=q;refine M00 rel st e (f30 po) λc z1 e1 H1 x1 st1=>⟨c,rfl,?_⟩;cases c with
 |true =>
  rw[if_pos rfl];rw[if_pos rfl] at e1;refine M00 (rel.mono x1) st1 e1 (λc z2 q=>((f30 po) c z2 q).mono x1) λc z2 e2 H2 x2 st2=>?_;cases e2;exact f40 po (x1.trans x2) st2 _ _ (a20.refl H2) j20
 |false =>
  rw[if_neg Ò];rw[if_neg Ò] at e1;cases e1;exact f40 po x1 st1 _ _ (a20.refl H1) j20
theorem P12(ga:b20 X G E a l)(hl:∀ t x y p,l≠.IfExp t x y p)
  (gb:b20 X G E b (.BoolOp .Or (r::vs) p)):b20 X G E (.or a b) (.BoolOp .Or (l::r::vs) p):=by
 have pw:PW X (.BoolOp .Or (l::r::vs) p) (tT X.K G E (.or a b)):=by
  refine PW.imp (v62 (ga.pt hl) (gb.pw _ _ _ rfl)) λσ H Q q=>?_;obtain⟨zA,ρ,z,rr,rel,st,e,po⟩:=q;refine S40 rel st e (S50 po) λc z1 e1 H1 x1 st1=>?_;cases c with
  |false =>
   rw[if_neg Ò];rw[if_neg Ò] at e1;refine S40 (rel.mono x1) st1 e1 (λc z2 q=>((S50 po) c z2 q).mono x1) λc z2 e2 H2 x2 st2=>?_;cases e2;obtain⟨b',e',po⟩:=po;cases e';exact po H2 (x1.trans x2) st2
  |true =>
   rw[if_pos rfl];rw[if_pos rfl] at e1;cases e1;obtain⟨b',e',po⟩:=po;cases e';exact po H1 x1 st1
 refine⟨PE.imp (v92 ga.pe gb.pe) λσ H Q q=>?_,λ_=>pw.pt,λop vs p h=>pw⟩;obtain⟨zA,ρ,z,rr,rel,st,e,po⟩:=q;refine M00 rel st e (f30 po) λc z1 e1 H1 x1 st1=>⟨c,rfl,?_⟩;cases c with
 |false =>
  rw[if_neg Ò];rw[if_neg Ò] at e1;refine M00 (rel.mono x1) st1 e1 (λc z2 q=>((f30 po) c z2 q).mono x1) λc z2 e2 H2 x2 st2=>?_;cases e2;exact f40 po (x1.trans x2) st2 _ _ (a20.refl H2) j20
 |true =>
  rw[if_pos rfl];rw[if_pos rfl] at e1;cases e1;exact f40 po x1 st1 _ _ (a20.refl H1) j20
theorem o22(gb:b20 X G E b r)(hr:∀ t x y p,r≠.IfExp t x y p):b20 X G E b (.BoolOp op [r] p):=by
 have pw:PW X (.BoolOp op [r] p) (tT X.K G E b):=by
  cases op with
  |And=>exact S71 (gb.pt hr)|Or=>exact f92 (gb.pt hr)
 exact⟨g12 gb.pe,λ_=>pw.pt,λ_ _ _ _=>pw⟩
theorem a21.o32(po:a21 X.K G zA E H Q rr)(x1:Ext zA H H1):a21 X.K G zA E H1 Q rr:=by
 cases rr with
 |er c z1=>exact EPost.mono po x1
 |ok l z2 =>
  obtain⟨s,e',po⟩:=po;exact⟨s,e',λv H' x' st' rv=>po v H' (x1.trans x') st' (rv.from x1)⟩
theorem S60{α:Type}{m:M α}{z:Z}{r:R α}(h:M.calm m z=some r):m z=some r/\∃ a z1,r=.ok a z1:=by
 unfold M.calm at h;split at h
 ·rename_i a z1 e;cases h;exact⟨e,a,z1,rfl⟩
 ·cases h
theorem o42(ha:PE X a ta)(hb:PE X b tb):PE X (.BoolOp .Or [a,b] pos) (λσ H Q=>ta σ H λx H1=>∃ t xs,x=.ref t/\SqT X.K H1 t xs/\if xs.isEmpty=true then tb σ H1 Q else Q x H1):=by
 intro pins s σ H Q I h;refine BoolOp_or (thn (ha pins s σ H _ I h) λv s1 ⟨x,H1,I1,r1,q1⟩=>?_);obtain⟨t,xs,rfl,hq,q1⟩:=q1;obtain⟨its,hv,ht,hl⟩:=I1.tuple hq;have hlen:xs.length=its.length:=hv.length;cases r1;refine truthy_tuple ht (by rw[Õ,← hlen];have:=Á4;omega) ?_
 cases xs with
 |nil =>
  cases its with
  |nil=>exact BoolOp_one (hb pins _ σ H1 Q (I1.tok _) q1)|cons _ _=>cases hlen
 |cons y r =>
  cases its with
  |nil=>cases hlen
  |cons _ _=>exact⟨.ref t,H1,I1.tok _,rfl,q1⟩
theorem Q31(h:(pl y).bind l22=some l):∃ s,y=[s]/\plD s=some (.tup l):=by
 obtain⟨d,p2,p3⟩:=Ì.mp h;obtain⟨s1,rfl,q1⟩:=g60 p2;cases d with
 |tup l=>cases p3;exact⟨s1,rfl,q1⟩
 |_=>cases p3
theorem C52(ga:b20 X G E a l)(gb:b20 X G E b r):b20 X G E (.orT a b) (.BoolOp .Or [l,r] p):=by
 have no:∀ {zA:Option Æ}{ρ:Env}{z:Z}{rr:R (List S)}{H:Hp}{Q:Bool->Hp->Prop},ev G.F (.orT a b) ρ z=some rr->J81 G zA E H Q rr->False:=λe po=>by
  obtain⟨e,u,z1,rfl⟩:=S60 e;obtain⟨c,rfl,_⟩:=po;rcases M.bind_some e with ⟨m,z2,_,e2⟩ | ⟨c,z2,_,e2⟩
  ·obtain⟨ds,_,e3⟩:=M.a10 e2;split at e3
   ·rcases M.bind_some e3 with ⟨m,z2,_,e2⟩ | ⟨c,z2,_,e2⟩
    ·obtain⟨ds,_,e3⟩:=M.a10 e2;cases e3
    ·cases e2
   ·cases e3
  ·cases e2
 refine⟨PE.imp (o42 ga.pe gb.pe) λσ H Q q=>?_,λ_ pins s σ H Q I ⟨_,_,_,_,_,_,e,po⟩=>(no e po).elim,λ_ _ _ _ wh pins s σ H Q I ⟨_,_,_,_,_,_,e,po⟩=>(no e po).elim⟩;obtain⟨zA,ρ,z,rr,rel,st,e,po⟩:=q;obtain⟨e,u,z1,rfl⟩:=S60 e;refine k80 rel st e (f30 po) λm z1 e1=>?_;obtain⟨ds,p1,e2⟩:=M.a10 e1;obtain⟨s1,rfl,q1⟩:=Q31 p1;refine⟨s1,rfl,λv H1 x1 st1 rv=>?_⟩;have hd:=rv.pl.d_ q1;obtain⟨t,xs,rfl,h1,h2⟩:=hd.D90;refine⟨t,xs,rfl,(a30 zA H1).sqT h1,?_⟩;cases ds with
 |nil =>
  cases h2.f20;have po:=po.o32 x1;refine k80 (rel.mono x1) st1 e2 (f30 po) λm z1 e1=>?_;obtain⟨ds,p1,e2⟩:=M.a10 e1;obtain⟨s1,rfl,q1⟩:=Q31 p1;cases e2;exact⟨s1,rfl,λv H2 x2 st2 rv=>f40 po x2 st2 _ _ (a20.refl H2) (rv.pl.d_ q1)⟩
 |cons y r =>
  obtain⟨u,w,rfl,_⟩:=h2.c00;cases e2;exact f40 po x1 st1 _ _ (a20.refl H1) hd
theorem C62(gc:b20 X G E c t)(ht:∀ a b d p,t≠.IfExp a b d p)(ga:b20 X G E a x)(gb:b20 X G E b y):b20 X G E (.ite c a b) (.IfExp t x y p):=by
 refine⟨PE.imp (D71 (gc.pt ht) ga.pe gb.pe) λσ H Q q=>?_,λh=>absurd rfl (h t x y p),λop vs p h=>by cases h⟩
 obtain⟨zA,ρ,z,rr,rel,st,e,po⟩:=q;refine S40 rel st e (f30 po) λk z1 e1 H1 x1 st1=>?_;have po1:=po.o32 x1;cases k with
 |true =>
  rw[if_pos rfl];rw[if_pos rfl] at e1;exact⟨zA,ρ,z1,rr,rel.mono x1,st1,e1,po1⟩
 |false =>
  rw[if_neg Ò];rw[if_neg Ò] at e1;exact⟨zA,ρ,z1,rr,rel.mono x1,st1,e1,po1⟩
theorem P22(x:XI lm X G E N sc)(hs:B40 s=true)(ga:b20 X G E a l)(gb:b20 X G E b r)(gc:b20 X G E c s):b20 X G E (.ch o o' a b c) (.Compare l [opC o,opC o'] [r,s] pos):=by
 have hm:lastMarks [opC o,opC o'] [r,s]=false:=v31 hs _;have key:∀ σ H Q,tI X.K G E (.ch o o' a b c) σ H Q->p51 (rD2 X.K λa b=>(B90 o a b).map λc=>.d (.bl c)) (rD2 X.K λa b=>(B90 o' a b).map λc=>.d (.bl c)) (tI X.K G E a) (tI X.K G E b) (tI X.K G E c) σ H Q:=λσ H Q q=>by
  obtain⟨zA,ρ,z,rr,rel,st,e,po⟩:=q;refine g01 rel st e (f30 po) λdx dy z2 v w H2 e2 x2 st2 h1 h2=>?_;obtain⟨k,hk,e3⟩:=M.a10 e2;refine⟨zA,z2,dx,dy,.d (.bl k),st2,h1,h2,by show Ì6 _ (B90 o dx dy)=_;rw[hk];rfl,λv3 H3 sm rv=>⟨k,Hd.bl_ (show Hd X.K (hz zA H3) (.bl k) v3 from rv),?_⟩⟩
  have x3:=x2.trans (Ext.of sm);have st3:=st2.same sm;cases k with
  |true =>
   rw[if_pos rfl];rw[if_pos rfl] at e3;refine k80 (rel.mono x3) st3 e3 (λc z2 q=>((f30 po) c z2 q).mono x3) λm z4 e4=>?_;obtain⟨dw,p1,e5⟩:=M.a10 e4;obtain⟨k',hk',e6⟩:=M.a10 e5;obtain⟨s1,rfl,q1⟩:=g60 p1;cases e6;refine⟨s1,rfl,λv4 H4 x4 st4 rv4=>?_⟩;exact⟨zA,z4,dy,dw,_,st4,(h2.same (a20.trans (i60 sm) x4)),rv4.pl.d_ q1,by show Ì6 _ (B90 o' dy dw)=_;rw[hk'];rfl,f40 po (x3.trans x4) st4⟩
  |false =>
   rw[if_neg Ò];rw[if_neg Ò] at e3;cases e3;exact f40 po x3 st3 _ _ (a20.refl H3) j20
 refine⟨PE.imp (E21 (e82 x.room.units o) (e82 x.room.units o') ga.pe gb.pe gc.pe hm) key,λ_=>PT.imp (E31 (e82 x.room.units o) (e82 x.room.units o') ga.pe gb.pe gc.pe hm) λσ H Q q=>?_,λop vs p h=>by cases h⟩
 obtain⟨zA,ρ,z,rr,rel,st,e,po⟩:=q;exact key σ H _ ⟨zA,ρ,z,rr,rel,st,e,Q21 po⟩
theorem Q41:∀ σ H Q,tI X.K G E (.bf f as) σ H Q->tCB (rDn X.K (bfD f)) (tA X.K G E as) σ H Q:=λσ H Q q=>by
 obtain⟨zA,ρ,z,rr,rel,st,e,po⟩:=q;refine m81 rel st e (f30 po) λl z1 e1 vs H1 x1 st1 rvs=>?_;obtain⟨ds,hd,e2⟩:=M.a10 e1;obtain⟨s,hs,e3⟩:=M.a10 e2;cases e3;exact⟨zA,z1,ds,s,st1,L90 rvs hd,hs,f40 po x1 st1⟩
theorem a41(x:XI lm X G E N sc){f:Bf}{as:Ex}{n:Str}{id:String}{e:Ï}{l:List Ï}{p pos:Pos}(hc:f50 X (.builtin id) (rDn X.K (bfD f)))(hb:n∈Z01)(hv:è n=some (.builtin id))(hg:glob sc n=true)(hL:isL as=true)(g:Good X G E as (e::l)):b20 X G E (.bf f as) (.Call (.Name n p) (e::l) [] pos):=by
 obtain⟨k1,k2,k3⟩:=c90 hg;obtain⟨ha,hs⟩:=g.args hL;rw[Â1,Á] at hs;exact b30 (PE.imp (B70 hc (x.glb n k1) (x.blt n hb) hv ha k3 k2 (c20 hs.1 l X.env) (q70 X.env pos hs.2)) Q41) rfl
theorem Z31(x:XI lm X G E N sc){f:Bf}{as:Ex}{n:Str}{T:String}{e:Ï}{l:List Ï}{p pos:Pos}(hc:f50 X (.type T) (rDn X.K (bfD f)))(hb:n∈Z01)(hv:è n=some (.type T))(hg:glob sc n=true)(hL:isL as=true)(g:Good X G E as (e::l)):b20 X G E (.bf f as) (.Call (.Name n p) (e::l) [] pos):=by
 obtain⟨k1,k2,k3⟩:=c90 hg;obtain⟨ha,hs⟩:=g.args hL;rw[Â1,Á] at hs;exact b30 (PE.imp (p91 hc (x.glb n k1) (x.blt n hb) hv ha k3 k2 (c20 hs.1 l X.env) (q70 X.env pos hs.2)) Q41) rfl
theorem o52:è "len"=some (.builtin "len"):=by decide +kernel
theorem v41:è "sorted"=some (.builtin "sorted"):=by decide +kernel
theorem o62:è "all"=some (.builtin "all"):=by decide +kernel
theorem o72:è "sum"=some (.builtin "sum"):=by decide +kernel
theorem o82:è "min"=some (.builtin "min"):=by decide +kernel
theorem o92:è "max"=some (.builtin "max"):=by decide +kernel
theorem p02:è "abs"=some (.builtin "abs"):=by decide +kernel
theorem v50:è "isinstance"=some (.builtin "isinstance"):=by decide +kernel
theorem p12:è "int"=some (.type "int"):=by decide +kernel
theorem M10:è "tuple"=some (.type "tuple"):=by decide +kernel
theorem a51:è "list"=some (.type "list"):=by decide +kernel
theorem P32(x:XI lm X G E N sc){f:Bf}{as:Ex}{n:Str}{e:Ï}{l:List Ï}{p pos:Pos}(hf:served f=true)(hn:n=(bfN f).1)(hg:glob sc n=true)(hL:isL as=true)(g:Good X G E as (e::l)):b20 X G E (.bf f as) (.Call (.Name n p) (e::l) [] pos):=by
 subst hn;cases f with
 |len=>exact a41 x m52 (-0) o52 hg hL g|tuple=>exact Z31 x J41 (-0) M10 hg hL g|list=>exact Z31 x Y21 (-0) a51 hg hL g|min=>exact a41 x (m82 x.calm) (-0) o82 hg hL g|max=>exact a41 x (m92 x.calm) (-0) o92 hg hL g|abs=>exact a41 x n02 (-0) p02 hg hL g|all=>exact a41 x (m62 x.calm) (-0) o62 hg hL g|int=>exact Z31 x n12 (-0) p12 hg hL g|sorted=>exact a41 x (v01 x.room.units) (-0) v41 hg hL g|sum=>exact a41 x (m72 x.calm) (-0) o72 hg hL g|_=>cases hf
theorem C72(t:Ty)(h:t≠.seq):À6 (tyN t)∈Z01/\è (À6 (tyN t))=some (.type (tyN t))/\tyN t∈["int","bool","tuple","list","str"]:=by
 cases t with
 |seq=>exact absurd rfl h|_=>decide +kernel
theorem p22(x:XI lm X G E N sc){t:Ty}{a:Ex}{n:Str}{e:Ï}{p pos p2:Pos}(hs:t≠.seq)
  (hg2:glob sc (À6 (tyN t))=true) (hn:n="isinstance") (hg:glob sc n=true) (ns:noStar e=true) (ga:b20 X G E a e):b20 X G E (.isi t a) (.Call (.Name n p) [e,.Name (À6 (tyN t)) p2] [] pos):=by
 obtain⟨hb,hv,ht⟩:=C72 t hs;subst hn;obtain⟨k1,k2,k3⟩:=c90 hg;obtain⟨m1,m2,m3⟩:=c90 hg2;refine b30 (PE.imp (B70 H41 (x.glb _ k1) (x.blt _ (-0)) v50 (d40 ga.pe (d40 (I80 (v:=.ty (tyN t)) (x.glb _ m1) (x.blt _ hb) hv rfl m3 m2) r70) (c20 ns _ _)) k3 k2 (c20 ns _ _) rfl) λσ H Q q=>?_) rfl
 obtain⟨zA,ρ,z,rr,rel,st,e,po⟩:=q;refine k80 rel st e (f30 po) λm z1 e1=>?_;obtain⟨d,p1,e2⟩:=M.a10 e1;obtain⟨s1,rfl,q1⟩:=g60 p1;cases e2;refine⟨s1,rfl,λv H1 x1 st1 rv=>⟨d,v,tyN t,rfl,((rv.pl.d_ q1).same (a30 zA H1)).has,ht,?_⟩⟩;rw[Y31 t d hs];exact f40 po x1 st1 _ _ (a20.refl H1) j20
theorem p32(x:XI lm X G E N sc){a:Ex}{n:Str}{e:Ï}{p pos p1 p2 p3:Pos}{k:Nat}(hg2:glob sc "tuple"=true)(hg3:glob sc "list"=true)(hn:n="isinstance")(hg:glob sc n=true)(ns:noStar e=true)(ga:b20 X G E a e) :
  b20 X G E (.isi .seq a) (.Call (.Name n p) [e,.Tuple [.Name "tuple" p1,.Name "list" p2] k p3] [] pos):=by
 subst hn;obtain⟨k1,k2,k3⟩:=c90 hg;obtain⟨m1,m2,m3⟩:=c90 hg2;obtain⟨l1,l2,l3⟩:=c90 hg3;refine b30 (PE.imp (B70 s61 (x.glb _ k1) (x.blt _ (-0)) v50 (d40 ga.pe (d40 (O51 (d40 (I80 (v:=.ty "tuple") (x.glb _ m1) (x.blt _ (-0)) M10 rfl m3 m2)
  (d40 (I80 (v:=.ty "list") (x.glb _ l1) (x.blt _ (-0)) a51 rfl l3 l2) r70))) r70) (c20 ns _ _)) k3 k2 (c20 ns _ _) rfl) λσ H Q q=>?_) rfl
 obtain⟨zA,ρ,z,rr,rel,st,e,po⟩:=q;refine k80 rel st e (f30 po) λm z1 e1=>?_;obtain⟨d,p1,e2⟩:=M.a10 e1;obtain⟨s1,rfl,q1⟩:=g60 p1;cases e2;refine⟨s1,rfl,λv H1 x1 st1 rv=>⟨by show 2<=sizeLine;rw[Á4];decide,λt ht=>?_⟩⟩
 have sm:a20 H1 (upd H1 t (.tup [.ty "tuple",.ty "list"])):=a20.new _ ht;refine⟨d,v,t,rfl,((rv.pl.d_ q1).same (a20.trans (a30 zA H1) sm)).has,SqT.of a90,?_⟩;rw[J61 d];exact f40 po x1 st1 _ _ sm j20
theorem C82(hs:a31 x=true)(ga:b20 X G E a v)(gi:b20 X G E i x):b20 X G E (.idx a i) (.Subscript v x pos):=by
 refine b30 (PE.imp (T91 ixD ga.pe gi.pe (H40 hs)) λσ H Q q=>?_) rfl;obtain⟨zA,ρ,z,rr,rel,st,e,po⟩:=q;refine g01 rel st e (f30 po) λdx dy z2 v w H2 e2 x2 st2 h1 h2=>?_;obtain⟨c,hc,e3⟩:=M.a10 e2;cases e3;exact⟨zA,z2,dx,dy,_,st2,h1,h2,by show Ì6 _ (L40 dx dy)=_;rw[hc];rfl,f40 po x2 st2⟩
theorem p42(x:XI lm X G E N sc){i k:Nat}{n:Str}{c:Nat}{p q pos:Pos}(h1:N[i]?=some n)(h2:c40 n=true):b20 X G E (.zget i k) (.Subscript (.Name n p) (.Constant (.int k) c q) pos):=by
 unfold c40 at h2;simp only[Á,ð] at h2;refine b30 (PE.imp (T91 X80 (o00 (i:=i) (by rw[x.hN];exact h1) (x.vis n (ä h1)) h2.1 h2.2) d71 (H40 rfl)) λσ H Q qq=>?_) rfl
 obtain⟨zA,ρ,z,rr,rel,st,e,po⟩:=qq;have e0:t91 k ρ[i]? z=some rr:=e;unfold t91 at e0;split at e0
 ·rename_i p hs;obtain⟨v,hv,a,hz',rfl⟩:=rel i .z hs;subst hz';have st':H a=some (.lst [.int p.1,.bl p.2]):=st.zat;refine⟨_,hv,a,[.int p.1,.bl p.2],(k:Int),?_⟩;split at e0
  ·rename_i hk;subst hk;cases e0;obtain⟨s',e',po⟩:=po;cases e';exact⟨_,rfl,rfl,SqL.of st',rfl,po _ H Ext.refl st h30⟩
  ·split at e0
   ·rename_i hk;subst hk;cases e0;obtain⟨s',e',po⟩:=po;cases e';exact⟨_,rfl,rfl,SqL.of st',rfl,po _ H Ext.refl st (D41 Hd.bl)⟩
   ·cases e0
 ·cases e0
theorem g21(a:Int):∀ (n:Nat) {its:List Ã},its.length=n->(∀ i,i < n->∃ v t,its[i]?=some v/\v=.int (a + (i:Nat)) t)->Vals ((î n).map λ(k:Nat)=>V.int (a + k)) its:=by
 intro n its hl h;have:∀ (m:Nat) (l:List Ã) (o:Nat),l.length=m->(∀ i,i < m->∃ v t,l[i]?=some v/\v=.int (a + (o + i:Nat)) t)->Vals ((À7 o m 1).map λ(k:Nat)=>V.int (a + k)) l:=by
  intro m
  induction m with
  |zero =>
   intro l o hl _;rw[List.length_eq_zero_iff.mp hl];exact .nil
  |succ m ih =>
   intro l o hl h;cases l with
   |nil=>cases hl
   |cons x r =>
    obtain⟨v,t,e1,e2⟩:=h 0 (Nat.succ_pos m);simp only[É0,È2] at e1;subst e1;rw[À2,Å1];refine .cons ⟨t,by rw[e2];simp⟩ (ih r (o + 1) (by simpa using hl) λi hi=>?_)
    obtain⟨v,t,e1,e2⟩:=h (i + 1) (Nat.succ_lt_succ hi);exact⟨v,t,by simpa using e1,by rw[e2];congr 1;omega⟩
 rw[Ó3];exact this n its 0 hl λi hi=>by
  obtain⟨v,t,e1,e2⟩:=h i hi;exact⟨v,t,e1,by rw[e2];simp⟩
theorem v51:è "range"=some (.type "range"):=by decide +kernel
def lrV:List V->Option (Int × Int)
 |[.int j]=>some (0,j)|[.int i,.int j]=>some (i,j)|_=>none
def lrO:Bool->List V->HO
 |true=>HO.tup|false=>HO.lst
def lrT:Bool->String
 |true=>"tuple"|false=>"list"
def C92(b:Bool)(ta:TA):TE:=λσ H Q=>ta σ H λvs H1=>∃ i j:Int,lrV vs=some (i,j)/\-100000 < i/\i < 100000/\-100000 < j/\j < 100000/\∀ l,H1 l=none->Q (.ref l) (upd H1 l (lrO b ((î (j - i).toNat).map λ(k:Nat)=>V.int (i + k))))
theorem p52{pins:List (Æ × Obj)}{σ:L2.St}{H1:Hp}{s1:Å}{r:Æ}{i j:Int}{t u v:Tok}{Q:VK}(hc:X.calm=true)(I2:Inv X pins σ H1 s1)(hr:Ó9 s1.heap r i j 1 t u v)(i1:-100000 < i)(i2:i < 100000)(j1:-100000 < j)(j2:j < 100000)
  (q:∀ l,H1 l=none->Q (.ref l) (upd H1 l (.lst ((î (j - i).toNat).map λ(k:Nat)=>V.int (i + k))))):Ñ (Ö X.prog X.w) X.A (call (.type "list") [.ref r]) (EP X pins σ Q) X.xe s1:=by
 have hz:Â5 i j 1=(((j - i).toNat:Nat):Int):=by rw[rangeSize_one];split <;> omega
 refine call_list_range (n:=(j - i).toNat) (I2.ok.hd hc) hr (small_one ∅ ∅ ∅ ∅) hz ∅ λh' tk acc' c' kp hS hacc=>?_
 have rv:Vals ((î (j - i).toNat).map λ(k:Nat)=>V.int (i + k)) acc'.toList:=by
  refine g21 i (j - i).toNat ?_ λi hi=>?_
  ·rw[È6];exact hacc.1
  ·have hlt:i < acc'.size:=by rw[hacc.1];exact hi
   obtain⟨t,e⟩:=hacc.2 i acc'[i] (Ç7 hlt);exact⟨acc'[i],t,by rw[û];exact Ç7 hlt,by rw[e];simp⟩
 have hlen:((î (j - i).toNat).map λ(k:Nat)=>V.int (i + k)).length<=sizeLine:=by rw[È,þ,Á4];omega
 have hn:=I2.hok.fresh (Ë _);exact⟨.ref _,_,I2.laid (t':=tk) kp (Ë _) (show h50 X.prog X.w _ h' _ (.lst _) from⟨hlen,acc'.toList,c',rv,by rw[Î4];exact hS⟩),rfl,q _ hn⟩
theorem Z41{pins:List (Æ × Obj)}{σ:L2.St}{H1:Hp}{s1:Å}{r:Æ}{i j:Int}{t u v:Tok}{Q:VK}(hc:X.calm=true)(I2:Inv X pins σ H1 s1)(hr:Ó9 s1.heap r i j 1 t u v)(i1:-100000 < i)(i2:i < 100000)(j1:-100000 < j)(j2:j < 100000)
  (q:∀ l,H1 l=none->Q (.ref l) (upd H1 l (.tup ((î (j - i).toNat).map λ(k:Nat)=>V.int (i + k))))):Ñ (Ö X.prog X.w) X.A (call (.type "tuple") [.ref r]) (EP X pins σ Q) X.xe s1:=by
 have hz:Â5 i j 1=(((j - i).toNat:Nat):Int):=by rw[rangeSize_one];split <;> omega
 refine HT.tuple_range (n:=(j - i).toNat) (I2.ok.hd hc) hr (small_one ∅ ∅ ∅ ∅) hz ∅ λh' tk acc' kp hsz hacc=>?_
 have rv:Vals ((î (j - i).toNat).map λ(k:Nat)=>V.int (i + k)) acc'.toList:=by
  refine g21 i (j - i).toNat ?_ λi hi=>?_
  ·rw[È6];exact hacc.1
  ·have hlt:i < acc'.size:=by rw[hacc.1];exact hi
   obtain⟨t,e⟩:=hacc.2 i acc'[i] (Ç7 hlt);exact⟨acc'[i],t,by rw[û];exact Ç7 hlt,by rw[e];simp⟩
 have hlen:((î (j - i).toNat).map λ(k:Nat)=>V.int (i + k)).length<=sizeLine:=by rw[È,þ,Á4];omega
 exact⟨.ref _,_,I2.laid (t':=tk) (λb o e=>Ä _ (kp b o e)) hsz (show h50 X.prog X.w _ _ _ (.tup _) from⟨hlen,acc'.toList,rv,⟨_,Î _ rfl,rfl,0,by rw[Î4]⟩⟩),rfl,q _ (I2.hok.fresh hsz)⟩
theorem v61(b:Bool){pins:List (Æ × Obj)}{σ:L2.St}{H1:Hp}{s1:Å}{r:Æ}{i j:Int}{t u v:Tok}{Q:VK}(hc:X.calm=true)(I2:Inv X pins σ H1 s1)(hr:Ó9 s1.heap r i j 1 t u v)(i1:-100000 < i)(i2:i < 100000)(j1:-100000 < j)(j2:j < 100000)
  (q:∀ l,H1 l=none->Q (.ref l) (upd H1 l (lrO b ((î (j - i).toNat).map λ(k:Nat)=>V.int (i + k))))):Ñ (Ö X.prog X.w) X.A (call (.type (lrT b)) [.ref r]) (EP X pins σ Q) X.xe s1:=by
 cases b with
 |true=>exact Z41 hc I2 hr i1 i2 j1 j2 q|false=>exact p52 hc I2 hr i1 i2 j1 j2 q
theorem D02(b:Bool):è (lrN b)=some (.type (lrT b)):=by
 cases b with
 |true=>exact M10|false=>exact a51
theorem v71(b:Bool){e:Ï}{l:List Ï}{ta:TA}{p p2 pos pos2:Pos}(hc:X.calm=true)(hg:Gl X (lrN b))(hm:X.mg (lrN b)=none)(hg2:Gl X "range")(hm2:X.mg "range"=none)(ha:PA X (e::l) ta)(hs:noStar e=true)(hs2:l.all noStar=true) :
  PE X (.Call (.Name (lrN b) p) [.Call (.Name "range" p2) (e::l) [] pos2] [] pos) (C92 b ta):=by
 intro pins s σ H Q I h;refine Call_ (u30 I hg hm (D02 b) (À0 (Ô6 ?_) rfl rfl) (by cases b <;> decide) (by cases b <;> decide))
 refine Call_ (u30 I hg2 hm2 v51 (À0 (thn (ha pos2 pins s σ H _ I h) λus s1 ⟨vs,H1,I1,r1,q1⟩=>?_) (c20 hs l X.env) (q70 X.env pos2 hs2)));obtain⟨i,j,hv,i1,i2,j1,j2,q⟩:=q1
 match vs,hv with
 |[.int _],hv =>
  cases hv;obtain⟨u,rfl,r⟩:=vals1 r1;obtain⟨t,rfl⟩:=r;exact call_range_1 (Î8 (v61 b hc (I1.kept λb o e=>Ä _ e) (Ó9.new ..) i1 i2 j1 j2 q))
 |[.int _,.int _],hv =>
  cases hv;obtain⟨u,u',rfl,r,r'⟩:=vals2 r1;obtain⟨t,rfl⟩:=r;obtain⟨t',rfl⟩:=r';exact call_range_2 (Î8 (v61 b hc (I1.kept λb o e=>Ä _ e) (Ó9.new ..) i1 i2 j1 j2 q))
theorem J91:∀ {ds xs:List D},lrD ds=some xs->∃ i j:Int,((ds=[.int j]/\i=0)∨ds=[.int i,.int j])/\-100000 < i/\i < 100000/\-100000 < j/\j < 100000/\xs=(î (j - i).toNat).map λ(k:Nat)=>D.int (i + k)
 |[],_,h=>by cases h
 |[x],xs,h=>by
  cases x with
  |int j =>
   obtain⟨hj,h⟩:=e60 h;have hj:=D70.mp hj;exact⟨0,j,.inl ⟨rfl,rfl⟩,by omega,by omega,hj.1,hj.2,by cases h;simp⟩
  |_=>cases h
 |[x,y],xs,h=>by
  cases x with
  |int i =>
   cases y with
   |int j =>
    obtain⟨hj,h⟩:=e60 h;have h1:=D70.mp hj.1;have h2:=D70.mp hj.2;exact⟨i,j,.inr rfl,h1.1,h1.2,h2.1,h2.2,by cases h;rfl⟩
   |_=>cases h
  |_=>cases h
 |x::y::_::_,_,h=>by
  cases x with
  |int i=>cases y <;> cases h
  |_=>cases h
theorem p62(x:XI lm X G E N sc){b:Bool}{as:Ex}{a:Ï}{l:List Ï}{p p2 pos pos2:Pos}(h1:glob sc (lrN b)=true)(h2:glob sc "range"=true)(hL:isL as=true)(g:Good X G E as (a::l)):b20 X G E (.lrng b as) (.Call (.Name (lrN b) p) [.Call (.Name "range" p2) (a::l) [] pos2] [] pos):=by
 obtain⟨k1,_,_⟩:=c90 h1;obtain⟨m1,_,_⟩:=c90 h2;obtain⟨ha,hs⟩:=g.args hL;rw[Â1,Á] at hs;refine b30 (PE.imp (v71 b x.calm (x.glb _ k1) (x.blt _ (by cases b <;> decide)) (x.glb _ m1) (x.blt _ (-0)) ha hs.1 hs.2) λσ H Q q=>?_) rfl
 obtain⟨zA,ρ,z,rr,rel,st,e,po⟩:=q;refine m81 rel st e (f30 po) λl z1 e1 vs H1 x1 st1 rvs=>?_;obtain⟨xs,hx,e2⟩:=M.a10 e1;cases e2;obtain⟨s',e',po⟩:=po;cases e';obtain⟨ds,h3,h4⟩:=Ì.mp hx;have hd:=L90 rvs h3;have fin:∀ i j:Int,xs=(î (j - i).toNat).map (λ(k:Nat)=>D.int (i + k))->∀ lA,H1 lA=none->Q (.ref lA) (upd H1 lA (lrO b ((î (j - i).toNat).map λ(k:Nat)=>V.int (i + k)))):=λi j ex lA hn=>by
  subst ex;have hI:=HdA.ints (K:=X.K) (H:=hz zA H1) ((î (j - i).toNat).map λ(k:Nat)=>i + (k:Int));rw[ù,ù] at hI;cases b with
  |false=>exact po _ _ (x1.trans (Ext.of (a20.new _ hn))) (st1.same (a20.new _ hn)) ((s30 st1 hI hn).from x1)|true=>exact po _ _ (x1.trans (Ext.of (a20.new _ hn))) (st1.same (a20.new _ hn)) (D41 (Hd.tup ((st1.same (a20.new _ hn)).X11 (SqT.of a90)) (hI.same (i60 (a20.new _ hn)))))
 obtain⟨i,j,hds,j1,j2,j3,j4,ex⟩:=J91 h4;refine⟨i,j,?_,j1,j2,j3,j4,fin i j ex⟩;rcases hds with ⟨rfl,rfl⟩ | rfl
 ·obtain⟨v,rfl,h5⟩:=hd.one;cases h5.i90;rfl
 ·obtain⟨v,w,rfl,h5,h6⟩:=hd.two;cases h5.i90;cases h6.i90;rfl
def tPO(K:Â)(G:Gs)(E:XK)(x:Ex):TO:=λσ H Q=>∃ zA ρ z r,z60 K zA H ρ σ/\d50 zA z H/\ev G.F x ρ z=some r/\(match r with
 |.ok l z'=>∃ o,t81 l=some o/\∀ H',Ext zA H H'->d50 zA z' H'->Q o H'
 |.er c z'=>EPost G zA E c z' H)
theorem p72(hL:isL x=true)(g:Good X G E x e.toList):PO X e (tPO X.K G E x):=by
 cases e with
 |none =>
  cases x with
  |nil =>
   refine λpins s σ H Q I q=>T71 pins s σ H Q I ?_;obtain⟨zA,ρ,z,r,rel,st,e,po⟩:=q;cases e;obtain⟨o,e',po⟩:=po;cases e';exact po H Ext.refl st
  |cons a r=>obtain⟨e,es,h,_⟩:=g;cases h
  |_=>cases hL
 |some e =>
  cases x with
  |nil=>cases (show [e]=[] from g)
  |cons a r =>
   obtain⟨e',es,h,ns,ga,lr,gr⟩:=g;cases h;refine λpins s σ H Q I q=>T81 ga.pe pins s σ H Q I ?_;obtain⟨zA,ρ,z,rr,rel,st,e,po⟩:=q;have her:∀ c z1,rr=.er c z1->EPost G zA E c z1 H:=λc z1 e=>by subst e;exact po
   have rn:r=.nil:=by
    cases r with
    |nil=>rfl|cons b q=>obtain⟨e,es,h,_⟩:=gr;cases h
    |_=>cases lr
   subst rn;refine k80 rel st e her λl z1 e1=>?_;obtain⟨s,hs,e2⟩:=M.a10 e1;cases e2;obtain⟨o,e',po⟩:=po;refine⟨s,E40 hs,λv H1 x1 st1 rv=>?_⟩;cases s with
   |d y =>
    cases y with
    |int i =>
     cases e';exact⟨i,Hd.i90 (show Hd X.K (hz zA H1) (.int i) v from rv),po H1 x1 st1⟩
    |_=>cases e'
   |_=>cases e'
  |_=>cases hL
theorem P42{a lo hi:Ex}{v:Ï}{l h:Option Ï}{p pos:Pos}(ga:b20 X G E a v)(hl:isL lo=true)(hh:isL hi=true)(gl:Good X G E lo l.toList)(gh:Good X G E hi h.toList):b20 X G E (.sl a lo hi) (.Subscript v (.Slice l h none p) pos):=by
 refine b30 (PE.imp (E71 O52 ga.pe (p72 hl gl) (p72 hh gh)) λσ H Q q=>?_) rfl;obtain⟨zA,ρ,z,rr,rel,st,e,po⟩:=q;refine k80 rel st e (f30 po) λm z1 e1=>?_;obtain⟨dx,p1,e2⟩:=M.a10 e1;obtain⟨s1,rfl,q1⟩:=g60 p1;refine⟨s1,rfl,λw H1 x1 st1 rv=>?_⟩;rcases M.bind_some e2 with ⟨u,z2,e3,e4⟩ | ⟨c,z2,e3,e4⟩
 ·obtain⟨o,ho,e5⟩:=M.a10 e4;refine⟨zA,ρ,z1,_,rel.mono x1,st1,e3,o,ho,λH2 x2 st2=>?_⟩;rcases M.bind_some e5 with ⟨u',z3,e6,e7⟩ | ⟨c,z3,e6,e7⟩
  ·obtain⟨o',ho',e8⟩:=M.a10 e7;refine⟨zA,ρ,z2,_,(rel.mono x1).mono x2,st2,e6,o',ho',λH3 x3 st3=>?_⟩;obtain⟨s,hs,e9⟩:=M.a10 e8;cases e9;exact⟨zA,z3,dx,s,st3,((rv.pl.mono (x2.trans x3)).d_ q1),hs,f40 po ((x1.trans x2).trans x3) st3⟩
  ·exact⟨zA,ρ,z2,_,(rel.mono x1).mono x2,st2,e6,((f30 po) c z3 e7).mono (x1.trans x2)⟩
 ·exact⟨zA,ρ,z1,_,rel.mono x1,st1,e3,((f30 po) c z2 e4).mono x1⟩
theorem Q51:∀ {x:Ex}{es:List Ï}{z z1:Z}{l:List S},isL x=true->Good X G E x es->ev G.F x ρ z=some (.ok l z1)->l.length=es.length:=by
 intro x
 induction x with
 |nil =>
  intro es z z1 l _ h e;have h:es=[]:=h;subst h;cases e;rfl
 |cons a r _ ih =>
  intro es z z1 l _ h e;obtain⟨e',es',rfl,ns,g,lr,gr⟩:=h;rcases M.bind_some e with ⟨m,z2,e1,e2⟩ | ⟨c,z2,e1,e2⟩
  ·obtain⟨s,hs,e3⟩:=M.a10 e2;rcases M.bind_some e3 with ⟨m',z3,e4,e5⟩ | ⟨c,z3,e4,e5⟩
   ·cases e5;rw[Ô,Ô,ih lr gr e4]
   ·cases e5
  ·cases e2
 |_=>intro es z z1 l h;cases h
theorem s_call(x:XI lm X G E N sc){f:Nat}{as:Ex}{n:Str}{ps:List Str}{e:Ï}{l:List Ï}{p pos:Pos}(hf:G.fns[f]?=some (n,ps))(hl:ps.length=l.length + 1)(hg:glob sc n=true)(hL:isL as=true)(g:Good X G E as (e::l)) :
  b20 X G E (.call f as) (.Call (.Name n p) (e::l) [] pos):=by
 obtain⟨k1,k2,k3⟩:=c90 hg;obtain⟨fa,fd,m1,m2,m3,F⟩:=x.gok f n ps hf;obtain⟨ha,hs⟩:=g.args hL;rw[Â1,Á] at hs;refine b30 (PE.imp (T41 F x.room (x.glb n k1) m1 m2 m3 .nil x.pas ha k2 (c20 hs.1 l X.env) (q70 X.env pos hs.2)) λσ H Q q=>?_) rfl;obtain⟨zA,ρ,z,rr,rel,st,e,po⟩:=q;have e0:M.bind (ev G.F as ρ) (λl=>M.bind (G.F false f (l.map plS)) λs=>M.ret [s]) z=some rr:=e;rcases M.bind_some e0 with ⟨m,z1,e1,e2⟩ | ⟨c,z1,e1,e2⟩
 ·refine⟨zA,ρ,z,_,rel,st,e1,λvs H1 x1 st1 rvs=>?_⟩;have hv:vs.length=ps.length:=by rw[← rvs.length,Q51 hL g e1,hl];rfl
  show spF X.K G f ps.length (vs++[]) H1 Q E;rw[É2];refine⟨hv,zA,z1,m.map plS,?_⟩;have ra:RvA X.K zA H1 (m.map plS) vs:=RvA.plS (Ä5.S51 rvs λ_ _ q=>q.pl);rcases M.bind_some e2 with ⟨s,z2,e3,e4⟩ | ⟨c,z2,e3,e4⟩
  ·cases e4;refine⟨_,ra,st1,e3,λv H2 x2 st2 rv=>?_⟩;obtain⟨s',e',po⟩:=po;cases e';exact po v H2 (x1.trans x2) st2 (rv.from x1)
  ·exact⟨_,ra,st1,e3,((f30 po) c z2 e4).mono x1⟩
 ·exact⟨zA,ρ,z,_,rel,st,e1,(f30 po) c z1 e2⟩
theorem K01{i:Nat}{n:Str}{p pos:Pos}{e:Ï}{l:List Ï}{t:TA}{w:TE}(hv:PE X (.Name n p) (e42 i))(ha:PA X (e::l) t)(he:ó (e::l) X.env=(false,eval e X.env)::ó l X.env)(hpl:(Ñ9 pos (ó l X.env)).any (·.1)=false)
  (hw:∀ σ H Q,w σ H Q->∃ fa,σ[i]?=some (some (.ref fa))/\∃ (fd:Ä0) (ps:List Str) (k:Nat) (sp:Sp),P40 X.prog X.w X.K X.mg X.base (CX1 X.prog X.w) k fa fd ps sp/\z30 k X.A/\Ì1 X.K (.ref fa)=true/\Binds X.K fd ps []/\∃ E,Passes (CX1 X.prog X.w) X E/\i52 sp [] E t σ H Q):PE X (.Call (.Name n p) (e::l) [] pos) w:=by
 intro pins s σ H Q I h;obtain⟨fa,h1,fd,ps,k,sp,F,hr,hk,hb,E,hx,h⟩:=hw σ H Q h;refine Æ6 (thn (hv pins s σ H (λx H0=>x=V.ref fa/\H0=H) I ⟨.ref fa,h1,rfl,rfl⟩) λv s0 ⟨x,H0,I0,r0,q0⟩=>?_);obtain⟨rfl,rfl⟩:x=.ref fa/\H0=H:=q0;cases r0;refine callWith_K (h₀:=X.base) I0.ok.mod.kin hk (thn (ha pos pins s0 σ H0 _ I0 h) λus s1 ⟨vs,H1,I1,r,q⟩=>⟨I1.kIn,?_⟩) he hpl;exact O61 F hr hb .nil hx I1 r q
theorem lookup_mem:∀ {l:List (Str × Nat)}{n:Str}{f:Nat},l.lookup n=some f->(n,f)∈l
 |(m,g)::r,n,f,h=>by
  rw[ü] at h;cases e:n == m with
  |true=>rw[e] at h;cases h;rw[eq_of_beq e];exact Ê
  |false=>rw[e] at h;exact É _ (lookup_mem h)
theorem Z51(x:XI lm X G E N sc){i:Nat}{tab:List (Str × Nat)}{as:Ex}{n:Str}{e:Ï}{l:List Ï}{p pos:Pos}(h1:N[i]?=some n)(h2:c40 n=true)(ht:∀ q∈tab,∃ ps,G.fns[q.2]?=some (q.1,ps)/\ps.length=l.length + 1)(hL:isL as=true)(g:Good X G E as (e::l)) :
  b20 X G E (.callv i tab as) (.Call (.Name n p) (e::l) [] pos):=by
 unfold c40 at h2;simp only[Á,ð] at h2;obtain⟨ha,hs⟩:=g.args hL;rw[Â1,Á] at hs;refine b30 (K01 (o00 (i:=i) (by rw[x.hN];exact h1) (x.vis n (ä h1)) h2.1 h2.2) ha (c20 hs.1 l X.env) (q70 X.env pos hs.2) λσ H Q q=>?_) rfl
 obtain⟨zA,ρ,z,rr,rel,st,e,po⟩:=q;obtain⟨f,hf,e0⟩:=M.a10 e;obtain⟨nm,hr,hl⟩:∃ nm,ρ[i]?=some (some (.fn nm))/\tab.lookup nm=some f:=by
  unfold fnAt at hf;split at hf
  ·exact⟨_,by assumption,hf⟩
  ·cases hf
 obtain⟨v,w1,fa,rfl,w2⟩:=rel i _ hr;obtain⟨ps,hf1,hf2⟩:=ht _ (lookup_mem hl);obtain⟨fa',fd,m1,m2,m3,F⟩:=x.gok f nm ps hf1;have w3:=x.fna f nm ps hf1 fa' m1;rw[w2] at w3;cases w3;refine⟨fa,w1,fd,ps,_,_,F,x.room,m2,m3,E,x.pas,?_⟩;rcases M.bind_some e0 with ⟨m,z1,e1,e2⟩ | ⟨c,z1,e1,e2⟩
 ·refine⟨zA,ρ,z,_,rel,st,e1,λvs H1 x1 st1 rvs=>?_⟩;have hv:vs.length=ps.length:=by rw[← rvs.length,Q51 hL g e1,hf2];rfl
  show spF X.K G f ps.length (vs++[]) H1 Q E;rw[É2];refine⟨hv,zA,z1,m.map plS,?_⟩;have ra:RvA X.K zA H1 (m.map plS) vs:=RvA.plS (Ä5.S51 rvs λ_ _ q=>q.pl);rcases M.bind_some e2 with ⟨s,z2,e3,e4⟩ | ⟨c,z2,e3,e4⟩
  ·cases e4;refine⟨_,ra,st1,e3,λv H2 x2 st2 rv=>?_⟩;obtain⟨s',e',po⟩:=po;cases e';exact po v H2 (x1.trans x2) st2 (rv.from x1)
  ·exact⟨_,ra,st1,e3,((f30 po) c z2 e4).mono x1⟩
 ·exact⟨zA,ρ,z,_,rel,st,e1,(f30 po) c z1 e2⟩
def u72:Pat->Nat
 |.nil=>0|.cons _ r=>u72 r + 1|_=>0
mutual
noncomputable def gP(K:Â):Pat->TG
 |.v i=>X60 i|.tup ps=>G92 K (u72 ps) (gL K ps)|.nil=>λ_ _ _ _=>False|.cons _ _=>λ_ _ _ _=>False
noncomputable def gL(K:Â):Pat->TGs
 |.nil=>G82|.cons p r=>g72 (gP K p) (gL K r)|.v _=>λ_ _ _ _=>False|.tup _=>λ_ _ _ _=>False
end
end
end Q
namespace Q
open PySem L2 PySem.Spec PyProof.Rows
variable [TB:Tb]
theorem Q61(h:noStar e=true)(es:List Ï)(env:Ç4):È1 (e::es) env=(false,Õ5 e env)::È1 es env:=by
 cases e <;> first | rfl | cases h
structure K11(X:Cx)(N:List Str)(loc:Str->Bool):Prop where
 hN:X.N=N
 nd:N.Nodup
 lc:∀ x,loc x=true->Loc X.env.scope x
 fn:∀ x,loc x=true->(X.fn x=true∨X.env.scope.names.lookup x=some .local)
 calm:X.calm=true
theorem H50:∀ {es:List Ï} (env:Ç4),es.all noStar=true->(È1 es env).length=es.length/\(È1 es env).findIdx? (·.1)=none
 |[],_,_=>⟨rfl,rfl⟩
 |e::es,env,h=>by
  rw[Â1,Á] at h;obtain⟨h1,h2⟩:=H50 env h.2;rw[Q61 h.1];refine⟨by rw[Ô,Ô,h1],?_⟩
  rw[List.findIdx?_cons,h2];rfl
theorem g31:∀ {r:Pat}{es:List Ï},m91 N loc r es=true->es.length=u72 r/\es.all noStar=true
 |.nil,es,h=>by
  unfold m91 at h;have:es=[]:=Ð5.mp h;subst this;exact⟨rfl,rfl⟩
 |.cons p r,es,h=>by
  unfold m91 at h;cases es with
  |nil=>cases h
  |cons e es =>
   rw[Á,Á] at h;obtain⟨h1,h2⟩:=g31 (r:=r) h.2;exact⟨by rw[Ô,h1];rfl,by rw[Â1,h.1.1,h2];rfl⟩
 |.v _,_,h=>by unfold m91 at h;cases h
 |.tup _,_,h=>by unfold m91 at h;cases h
mutual
theorem n01(L:K11 X N loc):∀ {p:Pat}{e:Ï},h80 N loc p e=true->PG X e (gP X.K p)
 |.v i,e,h=>by
  unfold h80 at h;cases e with
  |Name x pos =>
   rw[Á,beq_iff_eq] at h;unfold gP;exact p11 (by rw[L.hN];exact L.nd) (by rw[L.hN];exact h.1) (L.lc x h.2) (L.fn x h.2)
  |_=>cases h
 |.tup ps,e,h=>by
  unfold h80 at h;cases e with
  |Tuple es k pos =>
   obtain⟨h1,h2⟩:=g31 h;obtain⟨h3,h4⟩:=H50 X.env h2;unfold gP;exact g82 L.calm (Q71 L h) (by rw[h3,h1]) h4
  |_=>cases h
 |.nil,e,h=>by unfold h80 at h;cases h
 |.cons _ _,e,h=>by unfold h80 at h;cases h
theorem Q71(L:K11 X N loc):∀ {r:Pat}{es:List Ï},m91 N loc r es=true->PGs X es (gL X.K r)
 |.nil,es,h=>by
  unfold m91 at h;have:es=[]:=Ð5.mp h;subst this;unfold gL;exact S91
 |.cons p r,es,h=>by
  unfold m91 at h;cases es with
  |nil=>cases h
  |cons e es =>
   rw[Á,Á] at h;unfold gL;exact D81 (n01 L h.1.2) (Q71 L h.2) (by rw[Q61 h.1.1];rfl)
 |.v _,_,h=>by unfold m91 at h;cases h
 |.tup _,_,h=>by unfold m91 at h;cases h
end
section
variable {K:Â}{zA:Option Æ}{H:Hp}
theorem z60.set{ρ:Env}{σ:L2.St}{i:Nat}{s:S}{v:V}(h:z60 K zA H ρ σ)(hl:ρ.length=σ.length)(r:RvP K zA H s v):z60 K zA H (ρ.set i (some s)) (σ.set i (some v)):=by
 intro j t e;by_cases hj:j=i
 ·subst hj;have hlt:j < ρ.length:=by
   have:=(Ú.mp e).1;simpa using this
  rw[ë hlt] at e;cases e;exact⟨v,ë (by rw[← hl];exact hlt),r⟩
 ·rw[ã (Â2 hj)] at e;obtain⟨w,h1,h2⟩:=h j t e;exact⟨w,by rw[ã (Â2 hj)];exact h1,h2⟩
theorem E50:∀ {r:Pat}{l:List D}{ρ ρ':Env},bindL r l ρ=some ρ'->l.length=u72 r
 |.nil,l,ρ,ρ',e=>by
  unfold bindL at e;cases l with
  |nil=>rfl|cons x l=>cases e
 |.cons p r,l,ρ,ρ',e=>by
  unfold bindL at e;cases l with
  |nil=>cases e
  |cons x l =>
   obtain⟨ρ1,e1,e2⟩:=Ì.mp e;rw[Ô,E50 e2];rfl
 |.v _,_,_,_,e=>by unfold bindL at e;cases e
 |.tup _,_,_,_,e=>by unfold bindL at e;cases e
mutual
theorem v81:∀ {p:Pat}{d:D}{ρ ρ':Env},e70 p d ρ=some ρ'->∀ {σ:L2.St}{v:V}{R:L2.St->Hp->Prop},z60 K zA H ρ σ->ρ.length=σ.length->Hd K (hz zA H) d v ->
  (∀ σ',z60 K zA H ρ' σ'->ρ'.length=σ'.length->R σ' H)->gP K p v σ H R
 |.v i,d,ρ,ρ',e,σ,v,R,rel,hl,hd,k=>by
  unfold e70 at e;cases e;unfold gP;exact k _ (rel.set hl (show RvP K zA H (.d d) v from hd)) (by rw[Á0,Á0,hl])
 |.tup ps,d,ρ,ρ',e,σ,v,R,rel,hl,hd,k=>by
  unfold e70 at e;cases d with
  |tup l =>
   obtain⟨a,xs,rfl,h1,h2⟩:=hd.D90;unfold gP;exact⟨a,xs,rfl,(a30 zA H).sqT h1,by rw[h2.length];exact E50 e,g41 e rel hl h2 k⟩
  |_=>cases e
 |.nil,_,_,_,e,_,_,_,_,_,_,_=>by unfold e70 at e;cases e
 |.cons _ _,_,_,_,e,_,_,_,_,_,_,_=>by unfold e70 at e;cases e
theorem g41:∀ {r:Pat}{l:List D}{ρ ρ':Env},bindL r l ρ=some ρ'->∀ {σ:L2.St}{vs:List V}{R:L2.St->Hp->Prop},z60 K zA H ρ σ->ρ.length=σ.length->HdA K (hz zA H) l vs ->
  (∀ σ',z60 K zA H ρ' σ'->ρ'.length=σ'.length->R σ' H)->gL K r vs σ H R
 |.nil,l,ρ,ρ',e,σ,vs,R,rel,hl,hd,k=>by
  unfold bindL at e;cases l with
  |nil =>
   cases e;unfold gL;exact⟨hd.f20,k σ rel hl⟩
  |cons x l=>cases e
 |.cons p r,l,ρ,ρ',e,σ,vs,R,rel,hl,hd,k=>by
  unfold bindL at e;cases l with
  |nil=>cases e
  |cons x l =>
   obtain⟨ρ1,e1,e2⟩:=Ì.mp e;obtain⟨v,ws,rfl,h1,h2⟩:=hd.c00;unfold gL;exact⟨v,ws,rfl,v81 e1 rel hl h1 λσ' r' l'=>g41 e2 r' l' h2 k⟩
 |.v _,_,_,_,e,_,_,_,_,_,_,_=>by unfold bindL at e;cases e
 |.tup _,_,_,_,e,_,_,_,_,_,_,_=>by unfold bindL at e;cases e
end
end
end Q
namespace Q
open PySem L2 PySem.Spec PyProof.Rows
variable [TB:Tb]
structure D12(K:PySem.W.Frag)(zA:Option Addr)(J:L2.It)(xs:List D)(H1:Hp):Prop where
 go:∀ i H,Ext zA H1 H->i < xs.length->J.go i H
 yld:∀ i H x H' z d,Ext zA H1 H->d50 zA z H->J.yld i H x H'->xs[i]?=some d->a20 H H'/\Hd K (hz zA H') d x
 stop:∀ H,Ext zA H1 H->J.stop xs.length H
structure ItB(K:PySem.W.Frag)(J:L2.It)(xs:List D)(B:Hp):Prop where
 go:∀ i H,a20 B H->i < xs.length->J.go i H
 yld:∀ i H x H' zA z d,a20 B (hz zA H)->d50 zA z H->J.yld i H x H'->xs[i]?=some d->a20 H H'/\∀ C,a20 B C->(∀ a ys,SqT K (hz zA H') a ys->SqT K C a ys)->Hd K C d x
 stop:∀ H,a20 B H->J.stop xs.length H
section
variable {K:Â}{B:Hp}
theorem ItB.ok(h:ItB K J xs (hz zA H1)):D12 K zA J xs H1 :=
 ⟨λi H x=>h.go i H (a20.trans x (a30 zA H)),λi H x H' z d e st y k=>let ⟨s,f⟩:=h.yld i H x H' zA z d e st y k;⟨s,f _ (a20.trans e (i60 s)) λ_ _ q=>q⟩,λH x=>h.stop H (a20.trans x (a30 zA H))⟩
theorem g51(h:q60 K B a ys)(r:HdA K B xs ys):ItB K (Itl K a) xs B where
 go:=λi H x hi=>⟨ys,ys[i]'(by rw[r.length];exact hi),(h.same x).sq,by simp⟩
 yld:=λi H v H' zA z d x st y e=>by
  obtain⟨rfl,y⟩:=y;have y1:=y ys ((h.same x).same (a30 zA _)).sq;obtain⟨w,e1,e2⟩:=r.get e;rw[y1] at e1;cases e1;exact⟨a20.refl _,λC c _=>e2.same c⟩
 stop:=λH x=>⟨ys,(h.same x).sq,by rw[r.length];exact Ë _⟩
theorem v91(h:SqT K B a ys)(r:HdA K B xs ys):ItB K (Itt K a) xs B where
 go:=λi H x hi=>⟨ys,ys[i]'(by rw[r.length];exact hi),a20.sqT x h,by simp⟩
 yld:=λi H v H' zA z d x st y e=>by
  obtain⟨rfl,y⟩:=y;have y1:=y ys ((a30 zA _).sqT (a20.sqT x h));obtain⟨w,e1,e2⟩:=r.get e;rw[y1] at e1;cases e1;exact⟨a20.refl _,λC c _=>e2.same c⟩
 stop:=λH x=>⟨ys,a20.sqT x h,by rw[r.length];exact Ë _⟩
theorem w01(lo:Int)(n:Nat):ItB K (Itr lo n) ((î n).map λ(k:Nat)=>D.int (lo + k)) B where
 go:=λi H x hi=>by show i < n;simpa using hi
 yld:=λi H v H' zA z d x st y e=>by
  obtain⟨rfl,rfl⟩:=y;rw[Ø] at e;obtain⟨k,e1,rfl⟩:=Í.mp e;obtain⟨h1,h2⟩:=Ú.mp e1;rw[List.getElem_range] at h2;subst h2;exact⟨a20.refl _,λ_ _ _=>Hd.int⟩
 stop:=λH x=>by show n<=_;simp
end
section
variable {K:Â}{zA:Option Æ}{H1:Hp}
theorem zip_get:∀ {a b:List D}{i:Nat}{d:D},(s10 a b)[i]?=some d->∃ x y,a[i]?=some x/\b[i]?=some y/\d=.tup [x,y]
 |[],_,_,_,e=>by simp[s10] at e|_::_,[],_,_,e=>by simp[s10] at e|x::r,y::q,0,d,e=>by simp[s10] at e;exact⟨x,y,rfl,rfl,e.symm⟩
 |x::r,y::q,i + 1,d,e=>by
  obtain⟨u,v,h1,h2,h3⟩:=zip_get (a:=r) (b:=q) (i:=i) (by simpa [s10] using e)
  exact⟨u,v,by simpa using h1,by simpa using h2,h3⟩
theorem a61:∀ (a b:List D),(s10 a b).length=min a.length b.length
 |[],_=>by simp[s10]|_::_,[]=>by simp[s10]|x::r,y::q=>by simp only[s10,Ô,a61 r q];omega
theorem w11(h:∀ H,a20 B H->SqB bb K H a us)(r:HdA K B xs us)(h':∀ H,a20 B H->SqB bb K H b ws)(r':HdA K B ys ws):ItB K (Itz bb K a b) (s10 xs ys) B where
 go:=λi H x hi=>by
  rw[a61] at hi;exact⟨us,ws,us[i]'(by rw[r.length];omega),ws[i]'(by rw[r'.length];omega),h H x,h' H x,by simp,by simp⟩
 yld:=λi H v H' zA z d x st y e=>by
  obtain⟨T,rfl,hT,y⟩:=y;obtain⟨d1,d2,e1,e2,rfl⟩:=zip_get e;obtain⟨w1,f1,g1⟩:=r.get e1;obtain⟨w2,f2,g2⟩:=r'.get e2;have y1:=y us ws w1 w2 (h H (a20.trans x (a30 zA H))) (h' H (a20.trans x (a30 zA H))) f1 f2;subst y1;have sm:a20 H (upd H T (.tup [w1,w2])):=a20.new _ hT;exact⟨sm,λC c t=>Hd.tup (t _ _ ((st.same sm).X11 (SqT.of a90))) (.cons (g1.same c) (.cons (g2.same c) .nil))⟩
 stop:=λH x=>⟨us,ws,h H x,h' H x,by rw[a61,r.length,r'.length];omega⟩
end
def PX(P:D->Prop):D->Prop
 |.tup l=>∀ y∈l,P y|.lst l=>∀ y∈l,P y|_=>True
def ItX(K:Â)(zA:Option Æ)(H H':Hp)(l:List S)(J:L2.It)(xs:List D):Prop :=
 ∀ (P:D->Prop) (B:Hp),a20 B (hz zA H')->(∀ a ys,SqT K (hz zA H') a ys->SqT K B a ys)->(∀ d v,P d->Hd K (hz zA H') d v->Hd K B d v)->(∀ ds,plA l=some ds->∀ d∈ds,PX P d) ->
  (∀ a ys,q60 K (hz zA H') a ys->((H a=none/\H' a=some (.lst ys))∨m61 l=true)->q60 K B a ys)->ItB K J xs B
theorem HdA.move{K:Â}{H B:Hp}{P:D->Prop}(mv:∀ d v,P d->Hd K H d v->Hd K B d v):∀ {ds:List D}{vs:List V},(∀ y∈ds,P y)->HdA K H ds vs->HdA K B ds vs
 |[],_,_,h=>by rw[h.f20];exact .nil
 |d::ds,_,p,h=>by
  obtain⟨x,r,rfl,h1,h2⟩:=h.c00;exact .cons (mv d x (p d Ê) h1) (HdA.move mv (λy hy=>p y (É _ hy)) h2)
theorem ItX.ok{K:Â}{zA:Option Æ}{H H':Hp}{l:List S}{J:L2.It}{xs:List D}(h:ItX K zA H H' l J xs):D12 K zA J xs H':=by
 refine(h (λ_=>True) (hz zA H') (a20.refl _) (λ_ _ q=>q) (λ_ _ _ q=>q) (λds _ d _=>?_) λ_ _ q _=>q).ok;cases d <;> first | trivial | exact λ_ _=>trivial
def tIt(K:Â)(G:Gs)(E:XK)(it:It)(src:Ex):TI:=λσ H R=>∃ zA ρ z r,z60 K zA H ρ σ/\d50 zA z H/\ev G.F src ρ z=some r/\(match r with
 |.ok l z'=>∃ xs,(plA l).bind (itD it)=some xs/\∀ J H',Ext zA H H'->d50 zA z' H'->ItX K zA H H' l J xs->R J H'
 |.er c z'=>EPost G zA E c z' H)
section
variable {lm:Bool}{X:Cx}{G:Gs}{E:XK}{N:List Str}{sc:ú}
theorem p82{zA:Option Æ}{H:Hp}{it:It}{P:L2.It->Hp->Prop}{r:R (List S)}(po:(match r with | .ok l z'=>∃ xs,(plA l).bind (itD it)=some xs/\∀ J H',Ext zA H H'->d50 zA z' H'->ItX X.K zA H H' l J xs->P J H' | .er c z'=>EPost G zA E c z' H)):∀ c z1,r=.er c z1->EPost G zA E c z1 H:=λc z1 e=>by subst e;exact po
theorem w21{s:S}{ds:List D}(h:plA [s]=some ds):∃ d,ds=[d]/\plD s=some d:=by
 cases s with
 |d x=>cases h;exact⟨x,rfl,rfl⟩
 |fr xs=>cases h;exact⟨_,rfl,rfl⟩
 |_=>cases h
theorem Q81{tg e:Ï}{a:Ex}(g:b20 X G E a e):PI X tg e (tIt X.K G E .seq (.cons a .nil)):=by
 intro pins s σ H R I q;obtain⟨zA,ρ,z,rr,rel,st,ee,po⟩:=q;have e0:M.bind (ev G.F a ρ) (λx=>M.bind (M.of (one x)) λs=>M.bind (ev G.F .nil ρ) λy=>M.ret (s::y)) z=some rr:=ee;rcases M.bind_some e0 with ⟨m,z1,e1,e2⟩ | ⟨c,z1,e1,e2⟩
 ·obtain⟨t,ht,e3⟩:=M.a10 e2;cases e3;have hm:=E40 ht;subst hm;obtain⟨xs,hx,po⟩:=po;obtain⟨ds,h1,h2⟩:=Ì.mp hx;obtain⟨d,rfl,h3⟩:=w21 h1;cases d with
  |tup l =>
   cases h2;refine O41 g.pe pins s σ H R I ⟨zA,ρ,z,_,rel,st,e1,t,rfl,λv H1 x1 st1 rv=>?_⟩;obtain⟨b,ys,rfl,k1,k2⟩:=(rv.pl.d_ h3).D90;exact⟨b,rfl,⟨ys,(a30 zA H1).sqT k1⟩,po _ H1 x1 st1 λP B sub tup mv pa sf=>v91 (tup _ _ k1) (HdA.move mv (show ∀ y∈xs,P y from pa _ h1 _ Ê) k2)⟩
  |lst l =>
   cases h2;refine I90 g.pe pins s σ H R I ⟨zA,ρ,z,_,rel,st,e1,t,rfl,λv H1 x1 st1 rv=>?_⟩;have fin:∀ {b:Æ}{ys:List V},q60 X.K (hz zA H1) b ys->HdA X.K (hz zA H1) xs ys->((H b=none/\H1 b=some (.lst ys))∨m61 [t]=true)->∃ a,V.ref b=.ref a/\(∃ xs,SqL X.K H1 a xs)/\R (Itl X.K a) H1:=λ{b ys} k1 k2 k5=>by
    exact⟨b,rfl,⟨ys,(k1.same (a30 zA H1)).sq⟩,po _ H1 x1 st1 λP B sub tup mv pa sf=>g51 (sf _ _ k1 k5) (HdA.move mv (show ∀ y∈xs,P y from pa _ h1 _ Ê) k2)⟩
   cases t with
   |d x =>
    cases h3;obtain⟨b,ys,rfl,k1,k2⟩:=Hd.f21 (show Hd X.K (hz zA H1) (.lst xs) v from rv);exact fin k1 k2 (.inr rfl)
   |fr x =>
    cases h3;obtain⟨b,ys,rfl,k0,k1,k2,k3⟩:=rv;exact fin (q60.of (d10 k2 k1)) (k3.same (e50 b _)) (.inl ⟨k0,k2⟩)
   |_=>cases h3
  |_=>cases h2
 ·exact I90 g.pe pins s σ H R I ⟨zA,ρ,z,_,rel,st,e1,(p82 po) c z1 e2⟩
theorem M20{l:List S}{it:It}{xs:List D}(h:(plA l).bind (itD it)=some xs):∃ ds,plA l=some ds/\itD it ds=some xs:=Ì.mp h
theorem w31(x:XI lm X G E N sc){tg a:Ï}{as:Ex}{n:Str}{p pos:Pos}(hn:n="range")(hg:glob sc n=true)(hL:isL as=true)(g:Good X G E as [a]):PI X tg (.Call (.Name n p) [a] [] pos) (tIt X.K G E .rng1 as):=by
 subst hn;obtain⟨k1,k2,k3⟩:=c90 hg;obtain⟨ha,hs⟩:=g.args hL;rw[Â1,Á] at hs;intro pins s σ H R I q;refine P10 (x.glb _ k1) (x.blt _ (-0)) ha (c20 hs.1 [] X.env) pins s σ H R I ?_
 obtain⟨zA,ρ,z,rr,rel,st,ee,po⟩:=q;refine⟨zA,ρ,z,rr,rel,st,ee,?_⟩;cases rr with
 |er c z1=>exact po
 |ok l z1 =>
  obtain⟨xs,hx,po⟩:=po;intro vs H1 x1 st1 rvs;obtain⟨ds,h1,h2⟩:=M20 hx;have hd:=L90 rvs h1
  match ds,h2 with
  |[.int j],h2 =>
   obtain⟨hj,h2⟩:=e60 h2;have hj:=D70.mp hj;cases h2;obtain⟨v,rfl,h3⟩:=hd.one;cases h3.i90;refine⟨j,rfl,by omega,by omega,po _ H1 x1 st1 λP B sub tup mv pa sf=>?_⟩
   have:=w01 (K:=X.K) (B:=B) 0 j.toNat;simpa using this
theorem w41(x:XI lm X G E N sc){tg a b:Ï}{as:Ex}{n:Str}{p pos:Pos}(hn:n="range")(hg:glob sc n=true)(hL:isL as=true)(g:Good X G E as [a,b]):PI X tg (.Call (.Name n p) [a,b] [] pos) (tIt X.K G E .rng2 as):=by
 subst hn;obtain⟨k1,k2,k3⟩:=c90 hg;obtain⟨ha,hs⟩:=g.args hL;rw[Â1,Â1,Á,Á] at hs;intro pins s σ H R I q;refine p31 (x.glb _ k1) (x.blt _ (-0)) ha (by rw[c20 hs.1,c20 hs.2.1];rfl) (c20 hs.2.1 [] X.env) pins s σ H R I ?_
 obtain⟨zA,ρ,z,rr,rel,st,ee,po⟩:=q;refine⟨zA,ρ,z,rr,rel,st,ee,?_⟩;cases rr with
 |er c z1=>exact po
 |ok l z1 =>
  obtain⟨xs,hx,po⟩:=po;intro vs H1 x1 st1 rvs;obtain⟨ds,h1,h2⟩:=M20 hx;have hd:=L90 rvs h1
  match ds,h2 with
  |[.int i,.int j],h2 =>
   obtain⟨hj,h2⟩:=e60 h2;have hi:=D70.mp hj.1;have hj:=D70.mp hj.2;cases h2;obtain⟨v,w,rfl,h3,h4⟩:=hd.two;cases h3.i90;cases h4.i90;exact⟨i,j,rfl,by omega,po _ H1 x1 st1 λP B sub tup mv pa sf=>w01 i (j - i).toNat⟩
theorem w51{s:S}{r:List S}{ds:List D}(h:plA (s::r)=some ds):∃ x q,ds=x::q/\plD s=some x/\plA r=some q:=by
 cases s with
 |d y =>
  obtain⟨q,e,rfl⟩:=Í.mp h;exact⟨y,q,rfl,rfl,e⟩
 |fr y =>
  obtain⟨q,e,rfl⟩:=Í.mp h;exact⟨_,q,rfl,rfl,e⟩
 |_=>cases h
theorem Z61(h:plA l=some [x,y]):∃ s t,l=[s,t]/\plD s=some x/\plD t=some y:=by
 cases l with
 |nil=>cases h
 |cons s r =>
  obtain⟨_,_,e,h1,h2⟩:=w51 h;cases e;cases r with
  |nil=>cases h2
  |cons t r =>
   obtain⟨_,_,e,h3,h4⟩:=w51 h2;cases e;cases r with
   |nil=>exact⟨s,t,rfl,h1,h3⟩
   |cons u r =>
    obtain⟨_,_,e,_⟩:=w51 h4;cases e
theorem K21{s t:S}(h:m61 [s]=true):m61 [s,t]=true:=by
 match s,h with
 |.d (.lst _),_=>rfl
theorem K31{s t:S}(h:m61 [t]=true):m61 [s,t]=true:=by
 match s with
 |.d (.lst _)=>rfl|.d .non | .d (.bl _) | .d (.int _) | .d (.str _) | .d (.tup _) | .d .dct | .fr _ | .z=>exact h|.fn _=>exact h
theorem w61{K:Â}{zA:Option Æ}{H H1:Hp}{t:S}{v:V}{a:List D}(rv:RvS K zA H H1 t v)(h:plD t=some (.lst a)):∃ b ys,v=.ref b/\q60 K (hz zA H1) b ys/\HdA K (hz zA H1) a ys/\((H b=none/\H1 b=some (.lst ys))∨m61 [t]=true):=by
 cases t with
 |d x =>
  cases h;obtain⟨b,ys,rfl,k1,k2⟩:=Hd.f21 (show Hd K (hz zA H1) (.lst a) _ from rv);exact⟨b,ys,rfl,k1,k2,.inr rfl⟩
 |fr x =>
  cases h;obtain⟨b,ys,rfl,k0,k1,k2,k3⟩:=rv;exact⟨b,ys,rfl,q60.of (d10 k2 k1),k3.same (e50 b _),.inl ⟨k0,k2⟩⟩
 |_=>cases h
theorem w71(x:XI lm X G E N sc){tg a b:Ï}{as:Ex}{n:Str}{p pos:Pos}(ht:k90 tg=true)(hn:n="zip")(hg:glob sc n=true)(hL:isL as=true)(g:Good X G E as [a,b]):PI X tg (.Call (.Name n p) [a,b] [] pos) (tIt X.K G E .zip as):=by
 subst hn;obtain⟨k1,k2,k3⟩:=c90 hg;obtain⟨ha,hs⟩:=g.args hL;rw[Â1,Â1,Á,Á] at hs;cases tg with
 |Tuple es ek ep =>
  intro pins s σ H R I q;refine j12 (x.glb _ k1) (x.blt _ (-0)) ha (by rw[c20 hs.1,c20 hs.2.1];rfl) (c20 hs.2.1 [] X.env) pins s σ H R I ?_
  obtain⟨zA,ρ,z,rr,rel,st,ee,po⟩:=q;refine⟨zA,ρ,z,rr,rel,st,ee,?_⟩;cases rr with
  |er c z1=>exact po
  |ok l z1 =>
   obtain⟨xs,hx,po⟩:=po;intro vs H1 x1 st1 rvs;obtain⟨ds,h1,h2⟩:=M20 hx;have hd:=L90 rvs h1
   match ds,h2 with
   |[.tup a,.tup b],h2 =>
    cases h2;obtain⟨v,w,rfl,h3,h4⟩:=hd.two;obtain⟨p1,us,rfl,m1,m2⟩:=h3.D90;obtain⟨p2,ws,rfl,m3,m4⟩:=h4.D90;exact⟨false,p1,p2,rfl,⟨us,(a30 zA H1).sqT m1⟩,⟨ws,(a30 zA H1).sqT m3⟩,po _ H1 x1 st1 λP B sub tup mv pa sf=>w11 (λ_ x=>a20.sqT x (tup _ _ m1)) (HdA.move mv (show ∀ y∈a,P y from pa _ h1 _ Ê) m2) (λ_ x=>a20.sqT x (tup _ _ m3)) (HdA.move mv (show ∀ y∈b,P y from pa _ h1 _ (É _ Ê)) m4)⟩
   |[.lst a,.lst b],h2 =>
    cases h2;obtain⟨t1,t2,rfl,e1,e2⟩:=Z61 h1;cases rvs with
    |cons rv1 rn =>
     cases rn with
     |cons rv2 rn =>
      cases rn;obtain⟨p1,us,rfl,m1,m2,m3⟩:=w61 rv1 e1;obtain⟨p2,ws,rfl,m4,m5,m6⟩:=w61 rv2 e2;refine⟨true,p1,p2,rfl,⟨us,(m1.same (a30 zA H1)).sq⟩,⟨ws,(m4.same (a30 zA H1)).sq⟩,po _ H1 x1 st1 λP B sub tup mv pa sf=>w11 (λ_ x=>((sf _ _ m1 (m3.imp id λq=>?_)).same x).sq) (HdA.move mv (show ∀ y∈a,P y from pa _ h1 _ Ê) m2) (λ_ x=>((sf _ _ m4 (m6.imp id λq=>?_)).same x).sq) (HdA.move mv (show ∀ y∈b,P y from pa _ h1 _ (É _ Ê)) m5)⟩
      ·exact K21 q
      ·exact K31 q
 |_=>cases ht
theorem g61:∀ {a:List D}{i n:Nat}{d:D},(B30 a n)[i]?=some d->∃ x,a[i]?=some x/\d=.tup [.int ((n + i:Nat):Int),x]
 |[],_,_,_,e=>by simp[B30] at e|x::r,0,n,d,e=>by simp[B30] at e;exact⟨x,rfl,e.symm⟩
 |x::r,i + 1,n,d,e=>by
  obtain⟨u,h1,h2⟩:=g61 (a:=r) (i:=i) (n:=n + 1) (by simpa [B30] using e)
  exact⟨u,by simpa using h1,by rw[h2,show n + 1 + i=n + (i + 1) by omega]⟩
theorem M30:∀ (a:List D) (n:Nat),(B30 a n).length=a.length
 |[],_=>rfl|x::r,n=>by simp only[B30,Ô,M30 r]
theorem g71(h:∀ H,a20 B H->SqB b X.K H a us)(r:HdA X.K B xs us):ItB X.K (Ite b X.K a) (B30 xs 0) B where
 go:=λi H x hi=>by
  rw[M30] at hi;exact⟨us,us[i]'(by rw[r.length];omega),h H x,by simp⟩
 yld:=λi H v H' zA z d x st y e=>by
  obtain⟨T,rfl,hT,y⟩:=y;obtain⟨d1,e1,rfl⟩:=g61 e;obtain⟨w1,f1,g1⟩:=r.get e1;have y1:=y us w1 (h H (a20.trans x (a30 zA H))) f1;subst y1;have sm:a20 H (upd H T (.tup [.int i,w1])):=a20.new _ hT;exact⟨sm,λC c t=>Hd.tup (t _ _ ((st.same sm).X11 (SqT.of a90))) (.cons (by rw[Í1];exact Hd.int) (.cons (g1.same c) .nil))⟩
 stop:=λH x=>⟨us,h H x,by rw[M30,r.length]⟩
theorem Z71(h:plA l=some [d]):∃ s,l=[s]:=by
 cases l with
 |nil=>cases h
 |cons s r =>
  cases r with
  |nil=>exact⟨s,rfl⟩|cons t q=>exfalso;cases s <;> cases t <;> first | (cases h;done) | (simp only[plA,Option.map_map,Ó1] at h;obtain⟨_,_,h⟩:=h;cases h)
theorem g81(x:XI lm X G E N sc){tg a:Ï}{as:Ex}{n:Str}{p pos:Pos}(ht:k90 tg=true)(hn:n="enumerate")(hg:glob sc n=true)(hL:isL as=true)(g:Good X G E as [a]):PI X tg (.Call (.Name n p) [a] [] pos) (tIt X.K G E .enum as):=by
 subst hn;obtain⟨k1,k2,k3⟩:=c90 hg;obtain⟨ha,hs⟩:=g.args hL;rw[Â1,Á] at hs;cases tg with
 |Tuple es ek ep =>
  intro pins s σ H R I q;refine W21 (x.glb _ k1) (x.blt _ (-0)) ha (c20 hs.1 [] X.env) pins s σ H R I ?_
  obtain⟨zA,ρ,z,rr,rel,st,ee,po⟩:=q;refine⟨zA,ρ,z,rr,rel,st,ee,?_⟩;cases rr with
  |er c z1=>exact po
  |ok l z1 =>
   obtain⟨xs,hx,po⟩:=po;intro vs H1 x1 st1 rvs;obtain⟨ds,h1,h2⟩:=M20 hx;have hd:=L90 rvs h1
   match ds,h2 with
   |[.tup a],h2 =>
    cases h2;obtain⟨v,rfl,h3⟩:=hd.one;obtain⟨p1,us,rfl,m1,m2⟩:=h3.D90;exact⟨false,p1,rfl,⟨us,(a30 zA H1).sqT m1⟩,po _ H1 x1 st1 λP B sub tup mv pa sf=>g71 (λ_ x=>a20.sqT x (tup _ _ m1)) (HdA.move mv (show ∀ y∈a,P y from pa _ h1 _ Ê) m2)⟩
   |[.lst a],h2 =>
    cases h2;have fin:∀ (b:Æ) (ys:List V),q60 X.K (hz zA H1) b ys->HdA X.K (hz zA H1) a ys->((H b=none/\H1 b=some (.lst ys))∨m61 l=true)->∃ bb p,[V.ref b]=[.ref p]/\(∃ xs,SqB bb X.K H1 p xs)/\R (Ite bb X.K p) H1:=λb ys k1 k2 k5 =>
     ⟨true,b,rfl,⟨ys,(k1.same (a30 zA H1)).sq⟩,po _ H1 x1 st1 λP B sub tup mv pa sf=>g71 (λ_ x=>((sf _ _ k1 k5).same x).sq) (HdA.move mv (show ∀ y∈a,P y from pa _ h1 _ Ê) k2)⟩
    obtain⟨t,rfl⟩:=Z71 h1;cases rvs with
    |cons rv rn =>
     cases rn;cases t with
     |d x =>
      cases h1;obtain⟨b,ys,rfl,k1,k2⟩:=Hd.f21 (show Hd X.K (hz zA H1) (.lst a) _ from rv);exact fin _ _ k1 k2 (.inr rfl)
     |fr x =>
      cases h1;obtain⟨b,ys,rfl,k0,k1,k2,k3⟩:=rv;exact fin _ _ (q60.of (d10 k2 k1)) (k3.same (e50 b _)) (.inl ⟨k0,k2⟩)
     |_=>cases h1
 |_=>cases ht
abbrev EF:XK:=λ_ _ _=>False
def ttC(K:Â)(G:Gs):Ex->TT
 |.nil=>F21|.cons c _=>tT K G EF c|_=>λ_ _ _=>False
theorem n11(h:turns f (x::r) z=some (.ok ys z2)):∃ o z1 l,f x z=some (.ok o z1)/\turns f r z1=some (.ok l z2)/\ys=(match o with | some y=>y::l | none=>l):=by
 rcases M.bind_some (show M.bind (f x) _ z=_ from h) with ⟨o,z1,e1,e2⟩ | ⟨c,z1,e1,e2⟩
 ·rcases M.bind_some e2 with ⟨l,z3,e3,e4⟩ | ⟨c,z3,e3,e4⟩
  ·cases e4;exact⟨o,z1,l,e1,e3,rfl⟩
  ·cases e4
 ·cases e2
theorem Z81{zA:Option Æ}{J:L2.It}{xs ys:List D}{H1:Hp}{z1 z2:Z}{p:Pat}{cond el:Ex}{ρ0:Env}{σ0:L2.St}{Q:VK}(IT:D12 X.K zA J xs H1)(hm:xs.length<=most)(rel0:z60 X.K zA H1 ρ0 σ0)(len:ρ0.length=σ0.length)(st1:d50 zA z1 H1)
  (hc:cond=.nil∨∃ c,cond=.cons c .nil) (e:turns (r60 (ev G.F cond) (ev G.F el) p ρ0) xs z1=some (.ok ys z2))
  (fin:∀ H2 vs l,Ext zA H1 H2->d50 zA z2 H2->HdA X.K (hz zA H2) ys vs->H2 l=none->Q (.ref l) (upd H2 l (.lst vs))):r11 J σ0 H1 (gP X.K p) (ttC X.K G cond) (tI X.K G EF el) Q:=by
 refine⟨λi m vs H=>m=xs.length - i/\i<=xs.length/\vs.length<=i/\∃ yd z rest,Ext zA H1 H/\d50 zA z H/\HdA X.K (hz zA H) yd vs/\turns (r60 (ev G.F cond) (ev G.F el) p ρ0) (xs.drop i) z=some (.ok rest z2)/\ys=yd++rest,
  ⟨xs.length,rfl,Å8 _,Å8 _,[],z1,ys,Ext.refl,st1,.nil,by simpa using e,rfl⟩,?_⟩
 rintro i m vs H ⟨rfl,hi,hv,yd,z,rest,x,st,hd,et,ey⟩;by_cases hlt:i < xs.length
 ·refine .inr ⟨IT.go i H x hlt,Æ3 hv (Ù hlt (e80 hm)),
   λws H'=>ws.length<=i + 1/\∃ yd z rest,Ext zA H1 H'/\d50 zA z H'/\HdA X.K (hz zA H') yd ws/\turns (r60 (ev G.F cond) (ev G.F el) p ρ0) (xs.drop (i + 1)) z=some (.ok rest z2)/\ys=yd++rest,
   λws H' q=>⟨xs.length - (i + 1),by omega,rfl,hlt,q.1,q.2⟩,λv H' y=>?_⟩
  obtain⟨sm,hx⟩:=IT.yld i H v H' z xs[i] x st y (by simp[hlt])
  rw[Ã5 hlt] at et;obtain⟨o,z3,l,f1,f2,f3⟩:=n11 et;obtain⟨ρ',b1,f4⟩:=M.a10 (show M.bind (M.of (e70 p xs[i] ρ0)) _ z=_ from f1);have x':Ext zA H1 H':=x.trans (Ext.of sm);have st':=st.same sm;refine v81 b1 (rel0.mono x') len hx λσ' rel' len'=>?_;have yes:∀ {za:Z}{Ha:Hp},Ext zA H' Ha->d50 zA za Ha->M.bind (ev G.F el ρ') (λy=>M.bind (M.of (pl y)) λy=>M.ret (some y)) za=some (.ok o z3)->tI X.K G EF el σ' Ha (λy H4=>(vs++[y]).length<=i + 1/\∃ yd z rest,Ext zA H1 H4/\d50 zA z H4/\HdA X.K (hz zA H4) yd (vs++[y])/\turns (r60 (ev G.F cond) (ev G.F el) p ρ0) (xs.drop (i + 1)) z=some (.ok rest z2)/\ys=yd++rest):=λ{za Ha} xa sta ea=>by
   refine k80 (rel'.mono xa) sta ea (λc z1 h=>by cases h) λm z4 e4=>?_
   obtain⟨d,p1,e5⟩:=M.a10 e4;obtain⟨s1,rfl,q1⟩:=g60 p1;cases e5;refine⟨s1,rfl,λw H4 x4 st4 rv=>⟨by rw[Â0];simp;omega,yd++[d],z3,l,(x'.trans xa).trans x4,st4,?_,f2,by rw[ey,f3,Ê4];rfl⟩⟩
   exact(hd.same (a20.trans (i60 sm) (a20.trans xa.same x4.same))).append (.cons (rv.pl.d_ q1) .nil)
  rcases hc with rfl | ⟨c,rfl⟩
  ·have f5:M.bind (ev G.F el ρ') (λy=>M.bind (M.of (pl y)) λy=>M.ret (some y)) z=some (.ok o z3):=f4;have ty:ttC X.K G .nil=F21:=rfl;rw[ty];refine H51 ?_;dsimp only;rw[if_pos rfl];exact yes Ext.refl st' f5
  ·rcases M.bind_some (show M.bind (ev G.F (.cons c .nil) ρ') _ z=_ from f4) with ⟨m,za,e1,e2⟩ | ⟨q,za,e1,e2⟩
   ·rcases M.bind_some (show M.bind (ev G.F c ρ') _ z=_ from e1) with ⟨m',zb,e3,e4⟩ | ⟨q,zb,e3,e4⟩
    ·obtain⟨s,hs,e5⟩:=M.a10 e4;cases e5;have hm':=E40 hs;subst hm';show tT X.K G EF c σ' H' _;have tb:∃ b,s=.d (.bl b):=by
      cases s with
      |d y=>cases y with
       |bl b=>exact⟨b,rfl⟩|_=>cases e2
      |_=>cases e2
     obtain⟨b,rfl⟩:=tb;refine⟨zA,ρ',z,_,rel',st',e3,b,rfl,λHa xa sta=>?_⟩;cases b with
     |true =>
      rw[if_pos rfl];exact yes xa sta e2
     |false =>
      rw[if_neg Ò];cases e2;exact⟨Þ hv (Nat.le_succ _),yd,z3,l,x'.trans xa,sta,hd.same (a20.trans (i60 sm) xa),f2,by rw[ey,f3]⟩
    ·cases e4
   ·cases e2
 ·have hi':i=xs.length:=by omega
  subst hi';rw[drop_length] at et;cases et;refine .inl ⟨IT.stop H x,λl hl=>fin H vs l x st (by rw[ey,É2];exact hd) hl⟩
end
section
variable {K:Â}{zA:Option Æ}{z:Z}{H H2:Hp}{P:Æ}{q:Str}
theorem K41(KB:L10 P H H2)(t:Tab H P q)(t2:Tab H2 P q):Ext zA H H2:=by
 refine⟨λb o h=>?_,λb ps h=>?_⟩
 ·obtain⟨h1,h2⟩:=o20 h;have nt:=s20 h;obtain⟨ps,hp,_⟩:=t;have hb:b≠P:=λz=>by
   subst z;rw[hp] at h1;cases h1;exact nt _ rfl
  exact d10 (KB.same b o hb h1) h2 nt
 ·by_cases hb:b=P
  ·subst hb;obtain⟨qs,e,_⟩:=t2;exact⟨qs,e⟩
  ·exact⟨ps,KB.same b _ hb h⟩
theorem Z91(KB:L10 P H H2)(t:Tab H P q)(t2:Tab H2 P q)(uq:∀ p∈TB.tb,p.1=P->p.2=q)(st:d50 zA z H):d50 zA z H2:=by
 obtain⟨ps,hp,_⟩:=t;have ne:∀ {b:Æ}{o:HO},H b=some o->(∀ l,o≠.tbl l)->b≠P:=λ{b o} e1 e2 z=>by
  subst z;rw[hp] at e1;cases e1;exact e2 _ rfl
 refine⟨?_,λp hq=>?_⟩
 ·have h:=st.zat;cases zA with
  |none=>cases z with
   |none=>trivial|some _=>exact h.elim
  |some a=>cases z with
   |none=>exact h.elim
   |some pr =>
    have h':H a=some (.lst [.int pr.1,.bl pr.2]):=h;exact KB.same _ _ (ne h' λ_ z=>nomatch z) h'
 ·by_cases hb:p.1=P
  ·rw[uq p hq hb,hb];exact t2
  ·obtain⟨qs,e,tr,k⟩:=st.tab p hq;refine⟨qs,KB.same _ _ hb e,tr,λpos c hc=>?_⟩;obtain⟨c',e1,e2⟩:=k pos c hc;exact⟨c',e1,KB.same _ _ (ne e2 λ_ z=>nomatch z) e2⟩
theorem w81:∀ l:List Nat,(b50 N l).length<=l.length
 |[]=>Ë _
 |j::q=>by
  have ih:=w81 (N:=N) q;unfold b50;split
  ·rw[Ô,Ô];omega
  ·rw[Ô];omega
theorem S70(rel:z60 K zA H ρ σ):∀ {capt:List Nat}{ss:List S},J01 ρ capt=some ss->(b50 N capt).length=capt.length ->
  ∃ vs,RvA K zA H ss vs/\vs.length=(b50 N capt).length/\∀ (i:Nat) (x:Str) (v:V),((b50 N capt).map (·.1))[i]?=some x->vs[i]?=some v->∃ j:Nat,N[j]?=some x/\σ[j]?=some (some v)
 |[],ss,h,_=>by
  cases h;exact⟨[],.nil,rfl,λi x v h=>by simp[b50] at h⟩
 |i::capt,ss,h,hl=>by
  have h:(match ρ[i]? with | some (some s)=>(J01 ρ capt).map (s::·) | _=>none)=some ss:=h
  have le:=w81 (N:=N) capt;obtain⟨s,r,e2,h3,rfl⟩:∃ s r,ρ[i]?=some (some s)/\J01 ρ capt=some r/\ss=s::r:=by
   split at h
   ·rename_i s e;obtain⟨r,h3,h4⟩:=Í.mp h;exact⟨s,r,e,h3,h4.symm⟩
   ·cases h
  obtain⟨v,k1,k2⟩:=rel i s e2;cases hN:N[i]? with
  |none =>
   unfold b50 at hl;rw[hN] at hl;simp only[Ô] at hl;omega
  |some y =>
   unfold b50 at hl ⊢;rw[hN] at hl ⊢;simp only[Ô] at hl;obtain⟨vs,a1,a2,a3⟩:=S70 rel (N:=N) (capt:=capt) h3 ∅
   refine⟨v::vs,.cons k2 a1,by simp[a2],λj x u b1 b2=>?_⟩
   cases j with
   |zero =>
    simp only[Å1,É0,È2] at b1 b2;subst b1;subst b2;exact⟨i,hN,k1⟩
   |succ j=>exact a3 j x u (by simpa using b1) (by simpa using b2)
theorem g91:∀ {ss:List S}{vs:List V},RvA K zA H ss vs->z60 K zA H (ss.map some) (vs.map some)
 |[],_,h,i,s,e=>by simp at e
 |a::ss,_,h,i,s,e=>by
  cases h with
  |cons h1 h2 =>
   cases i with
   |zero =>
    simp only[Å1,É0,È2] at e;subst e;exact⟨_,rfl,h1⟩
   |succ i =>
    obtain⟨v,k1,k2⟩:=g91 h2 i s (by simpa using e)
    exact⟨v,by simpa using k1,k2⟩
end
section
variable {lm:Bool}{X:Cx}{G:Gs}{E:XK}{N:List Str}{sc:ú}
theorem p92(x:XI lm X G E N sc)(hlm:lm=true)(hg:glob sc "_law_refused"=true)(hc:(b50 N capt).length=capt.length)(hs:Z11 lsc sc (b50 N capt)=true)(hL:isL a=false)
  (ih:∀ (k:Nat) {X:Cx}{E:XK},XI false X (lowG G k) E ((b50 N capt).map (·.1)) lsc->Good X (lowG G k) E a [body]):b20 X G E (.refd capt a) (.Call (.Name "_law_refused" p) [.Lambda ⟨[],[],none,[],[],none,[]⟩ body lsc lpos] [] pos):=by
 obtain⟨c,P,q,k,fR,fdR,L⟩:=x.lam hlm;obtain⟨k1,k2,k3⟩:=c90 hg;unfold Z11 at hs;simp only[Á,ð,beq_iff_eq,Ã6,decide_eq_true_eq] at hs;obtain⟨⟨⟨⟨⟨⟨s1,s2⟩,s3⟩,s4⟩,s5⟩,s6⟩,s7⟩:=hs;refine b30 (λpins s σ H Q I qq=>?_) rfl;obtain⟨zA,ρ,z,rr,rel,st,e,po⟩:=qq;have e0:l32 (J01 ρ capt) (λρ'=>ev (j40 G.F) a ρ') z=some rr:=e;unfold l32 at e0;split at e0
 ·cases e0
 ·rename_i ss hss;split at e0
  ·rename_i cc z1 he;split at e0
   ·rename_i hc12;cases e0;obtain⟨vs,ra,hvl,hvs⟩:=S70 rel hss hc;have tab:=st.tab _ L.tb;have hfree:∀ y∈(b50 N capt).map (·.1),lsc.names.lookup y=some .free:=λy hy=>by
     obtain⟨pr,h1,rfl⟩:=á.mp hy;exact s6 pr h1
    refine Y80 (RR:=λH2 H'=>Ext zA H2 H'/\d50 zA z1 H') (cls:=.ref (G.cls cc)) (N:=(b50 N capt).map (·.1)) (k:=k) (P:=P) (qual:=q) L.fn (by rw[← L.lv];exact x.room) (x.glb _ k1) L.m L.kp L.bd L.code L.hd L.qual L.bm (λy hy hf=>?_) (λy hy=>by simpa using s4 y hy) hfree s1 s2 s3 rfl (λ_ _ _ _=>rfl) k2 rfl pins s σ H Q I ?_
    ·have:=s5 y hy;rw[hf] at this;unfold Env.kindOf;rw[L.sco];simpa using this
    ·refine⟨tab,vs,by rw[È];exact hvl,λi y v h1 h2=>by rw[x.hN];exact hvs i y v h1 h2,λH2 KB TB2=>?_⟩
     have x2:Ext zA H H2:=K41 KB tab TB2;have st2:d50 zA z H2:=Z91 KB tab TB2 L.uq st;refine⟨λf c' cl A outer s3 H3 hr sm=>?_,λs2 f th=>?_⟩
     ·have XL:XI false (R10 X.prog X.w X.K X.mg X.base ((b50 N capt).map (·.1)) q lsc f (.ref c') cl A outer s3 H3 λc _ H'=>c=.ref (G.cls cc)/\Ext zA H2 H'/\d50 zA z1 H') (lowG G k) (λc _ H'=>c=.ref (G.cls cc)/\Ext zA H2 H'/\d50 zA z1 H') ((b50 N capt).map (·.1)) lsc :=
       { gok:=L.low,fna:=x.fna,num:=x.num,blt:=x.blt,hN:=rfl,nd:=s7,vis:=λy hy=>.inr (.inr (hfree y hy)),glb:=λy h=>h,cel:=λy h=>h,calm:=rfl,room:=hr,pas:=W51,lam:=λh=>nomatch h }
      refine⟨_,(b00 hL (ih k XL)).pe,?_⟩;refine⟨zA,ss.map some,z,_,g91 (RvA.mono ra (x2.trans (Ext.of sm))),st2.same sm,he,λea H' xx stt hn=>?_⟩;exact⟨rfl,(Ext.of sm).trans xx,stt⟩
     ·refine⟨f,G.cls cc,cc,_,rfl,th,L.cls cc hc12,λl H1 H' hRR sm hl=>?_⟩;obtain⟨x1,st1⟩:=hRR;obtain⟨s',e',po⟩:=po;cases e';have xx:Ext zA H H':=(x2.trans x1).trans (Ext.of sm);have stt:=st1.same sm;exact po _ _ (xx.trans (Ext.of (a20.new _ hl))) (stt.same (a20.new _ hl)) ((s30 stt (HdA.cons Hd.int HdA.nil) hl).from xx)
   ·cases e0
  ·cases e0
end
theorem i20{env:Ç4}{k0:É4}(hk:k0≠.free):∀ {names:List (Str × É4)}{x:Str},names.lookup x=some k0 ->
  (names.map λ(n,k)=>if (k == í&&env.scope.kind == .function&&env.kindOf n == some .cell) then(n,Ä8) else(n,k)).lookup x=some k0
 |[],_,h=>by simp at h
 |(n,k)::r,x,h=>by
  have ih:=@i20 env k0 hk r x;show Ë4 x ((if (k == í&&env.scope.kind == .function&&env.kindOf n == some .cell)=true then(n,Ä8) else(n,k))::_)=_;cases hx:x == n with
  |true =>
   simp only[ü,hx] at h;cases h;have:(k0 == í)=false:=by simpa using hk
   rw[this,Ó8,Ó8,if_neg Ò];simp only[ü,hx]
  |false =>
   simp only[ü,hx] at h;by_cases hq:(k == í&&env.scope.kind == .function&&env.kindOf n == some .cell)=true
   ·rw[if_pos hq];simp only[ü,hx];exact ih h
   ·rw[if_neg hq];simp only[ü,hx];exact ih h
section
variable {lm:Bool}{X:Cx}{G:Gs}{E:XK}{N:List Str}{sc csc:ú}{on:List Str}{cs:List (Str × Nat)}
structure q02(csc sc:Scope)(N on:List Str)(cs:List (Str × Nat)):Prop where
 kind:csc.kind=.function
 nocell:∀ y∈csc.names,y.2≠.cell
 locs:∀ y∈csc.names,y.2=.local->csc.names.lookup y.1=some .local
 frees:∀ y∈csc.names,y.2=.free->(sc.names.lookup y.1=some .cell∨sc.names.lookup y.1=some .free)
 captd:∀ p∈cs,N[p.2]?=some p.1/\csc.names.lookup p.1=some .free
 own:∀ x∈on,csc.names.lookup x=some .local
 nd:(on++cs.map (·.1)).Nodup
theorem D22(h:f91 csc sc N on cs=true):q02 csc sc N on cs:=by
 unfold f91 at h;simp only[Á] at h;obtain⟨⟨⟨⟨⟨⟨h1,h2⟩,h3⟩,h4⟩,h5⟩,h6⟩,h7⟩:=h;rw[Ã6] at h2 h3 h4 h5 h6;refine⟨by simpa using h1,λy hy=>by simpa using h2 y hy,λy hy hl=>?_,λy hy hf=>?_,λp hp=>by simpa using h5 p hp,λx hx=>by simpa using h6 x hx,of_decide_eq_true h7⟩
 ·have:=h3 y hy;rw[hl] at this;simpa using this
 ·have:=h4 y hy;rw[hf] at this;simpa using this
theorem a02(x:XI lm X G E N sc)(c:q02 csc sc N on cs):r80 X csc on cs:=⟨c.kind,c.nocell,c.locs,λy hy hf=>x.cel _ (c.frees y hy hf),λp hp=>by rw[x.hN];exact c.captd p hp⟩
theorem w91(x:XI lm X G E N sc)(c:q02 csc sc N on cs)(cl:List (Str × Æ))(C:Æ)(s:Å)(H:Hp)(fp:List Æ):XI false (b90 X (d00 on cs) csc cl C s H fp) G EF (on++cs.map (·.1)) csc where
 gok:=x.gok
 fna:=x.fna
 num:=x.num
 blt:=x.blt
 hN:=rfl
 nd:=c.nd
 vis:=λy hy=>by
  rcases Â3.mp hy with h | h
  ·exact .inl (i20 (-0) (c.own y h))
  ·obtain⟨p,hp,rfl⟩:=á.mp h;rcases q00 (env:=X.env) (c.captd p hp).2 with h | h
   ·exact .inr (.inl h)
   ·exact .inr (.inr h)
 glb:=λy hy=>i20 (-0) hy
 cel:=λy hy=>by
  rcases hy with h | h
  ·exact .inl (i20 (-0) h)
  ·exact q00 (env:=X.env) h
 calm:=x.calm
 room:=x.room
 pas:=k72
 lam:=λh=>nomatch h
theorem K51(x:XI lm X G E N sc)(c:q02 csc sc N on cs)(cl:List (Str × Æ))(C:Æ)(s:Å)(H:Hp)(fp:List Æ):K11 (b90 X (d00 on cs) csc cl C s H fp) (on++cs.map (·.1)) (λy=>on.contains y) where
 hN:=rfl
 nd:=c.nd
 lc:=λy hy=>.inl (i20 (-0) (c.own y (by simpa using hy)))
 fn:=λy hy=>.inr (i20 (-0) (c.own y (by simpa using hy)))
 calm:=x.calm
theorem h01:∀ {capt:List Nat},(b50 N capt).length=capt.length->(b50 N capt).map (·.2)=capt
 |[],_=>rfl
 |i::r,h=>by
  have le:∀ l:List Nat,(b50 N l).length<=l.length:=by
   intro l
   induction l with
   |nil=>exact Ë _
   |cons j q ih =>
    unfold b50;split
    ·rw[Ô,Ô];omega
    ·rw[Ô];omega
  unfold b50 at h ⊢;split at h
  ·rename_i y hy;rw[Ô,Ô] at h;rw[Å1,h01 ∅]
  ·have:=le r;rw[Ô] at h;omega
theorem K61(rel:z60 X.K zA H ρ σ)(h:cs.map (·.2)=capt):z60 X.K zA H (é on.length none++capt.map λi=>(ρ[i]?).getD none) (r50 on cs σ) /\
  (é on.length (none:Option S)++capt.map λi=>(ρ[i]?).getD none).length=(r50 on cs σ).length:=by
 subst h;constructor
 ·intro j s e;unfold r50;by_cases hj:j < on.length
  ·rw[Î7 (by simpa using hj)] at e
   simp[Ð6,hj] at e
  ·rw[Ä6 (by simpa using hj),Ý4,Ø,Ø] at e
   rw[Ä6 (by simpa using hj),È,Ø]
   cases hp:cs[j - on.length]? with
   |none=>rw[hp] at e;simp at e
   |some p =>
    rw[hp] at e;simp only[map_some,È2] at e;have e2:ρ[p.2]?=some (some s):=by
     cases hr:ρ[p.2]? with
     |none=>rw[hr] at e;cases e
     |some o=>rw[hr] at e;exact congrArg some e
    obtain⟨v,h1,h2⟩:=rel p.2 s e2;exact⟨v,by simp[h1],h2⟩
 ·unfold r50;simp
theorem x01(h:B40 e=true)(env:Ç4)(x:Ã):Ç6 e env x=pure x:=by
 cases e with
 |Set _ _ _=>cases h
 |_=>rfl
def H60(X:Cx)(G:Gs)(E:XK)(x:Ex)(elt tg iter:Ï)(ifs:List Ï)(csc:ú):Prop:=∃ (own:List Str) (capt:List (Str × Nat)) (wi:TI) (g:TG) (tt:TT) (te:TE),r80 X csc own capt/\PI X tg iter wi /\
 (∀ cl C s H fp,PG (b90 X (d00 own capt) csc cl C s H fp) tg g)/\(∀ cl C s H fp,PTs (b90 X (d00 own capt) csc cl C s H fp) ifs tt)/\(∀ cl C s H fp,PE (b90 X (d00 own capt) csc cl C s H fp) elt te) /\
 (∀ x,Ç6 iter X.env x=pure x)/\∀ σ H Q,tI X.K G E x σ H Q->U41 own capt wi g tt te σ H Q
theorem D32(x:XI lm X G E N sc){p:Pat}{it:It}{src cond el:Ex}{capt:List Nat}{elt tg iter:Ï}{ifs:List Ï}(c:q02 csc sc N on cs)(hcap:cs.map (·.2)=capt)(hp:h80 (on++cs.map (·.1)) (λy=>on.contains y) p tg=true)
  (hi:PI X tg iter (tIt X.K G E it src)) (hns:B40 iter=true) (hc:(cond=.nil/\ifs=[])∨∃ q f,cond=.cons q .nil/\ifs=[f]/\∀ cl C s H fp,PT (b90 X (d00 on cs) csc cl C s H fp) f (tT X.K G EF q))
  (he:∀ cl C s H fp,PE (b90 X (d00 on cs) csc cl C s H fp) elt (tI X.K G EF el)):H60 X G E (.comp on.length capt p it src cond el) elt tg iter ifs csc:=by
 have ht:∀ cl C s H fp,PTs (b90 X (d00 on cs) csc cl C s H fp) ifs (ttC X.K G cond):=by
  rcases hc with ⟨rfl,rfl⟩ | ⟨q,f,rfl,rfl,h⟩
  ·exact λcl C s H fp=>U21
  ·exact λcl C s H fp=>r01 (h cl C s H fp)
 refine⟨on,cs,tIt X.K G E it src,gP X.K p,ttC X.K G cond,tI X.K G EF el,a02 x c,hi,λcl C s H fp=>n01 (K51 x c cl C s H fp) hp,ht,he,x01 hns X.env,λσ H Q q=>?_⟩;obtain⟨zA,ρ,z,rr,rel,st,e,po⟩:=q;have e0:M.bind (ev G.F src ρ) (λl=>M.bind (M.of ((plA l).bind (itD it))) λxs=>if xs.length<=most then M.bind (M.calm (turns (r60 (ev G.F cond) (ev G.F el) p (é on.length none++capt.map λi=>(ρ[i]?).getD none)) xs)) λys=>M.ret [.fr ys] else M.no) z=some rr:=e;rcases M.bind_some e0 with ⟨m,z1,e1,e2⟩ | ⟨k,z1,e1,e2⟩
 ·obtain⟨xs,hx,e3⟩:=M.a10 e2;refine⟨zA,ρ,z,_,rel,st,e1,xs,hx,λJ H1 x1 st1 IT'=>?_⟩;have IT:=IT'.ok;split at e3
  ·rename_i hm;rcases M.bind_some e3 with ⟨ys,z2,e4,e5⟩ | ⟨k,z2,e4,e5⟩
   ·cases e5;have e6:turns (r60 (ev G.F cond) (ev G.F el) p (é on.length none++capt.map λi=>(ρ[i]?).getD none)) xs z1=some (.ok ys z2):=by
     unfold M.calm at e4;split at e4
     ·rename_i h;cases e4;exact h
     ·cases e4
    obtain⟨r1,r2⟩:=K61 (on:=on) (rel.mono x1) hcap;refine Z81 IT hm r1 r2 st1 (by rcases hc with ⟨h,_⟩ | ⟨q,_,h,_⟩;exact .inl h;exact .inr ⟨q,h⟩) e6 λH2 vs l x2 st2 hd hl=>?_
    exact f40 po (x1.trans x2) st2 _ _ (a20.new _ hl) (s30 st2 hd hl)
   ·unfold M.calm at e4;split at e4 <;> cases e4
  ·cases e3
 ·exact⟨zA,ρ,z,_,rel,st,e1,(f30 po) k z1 e2⟩
theorem H60.good(hc:X.calm=true)(h:H60 X G E x elt tg iter ifs csc):b20 X G E x (.ListComp elt [⟨tg,iter,ifs,0⟩] csc pos):=by
 obtain⟨own,capt,wi,g,tt,te,h1,h2,h3,h4,h5,h6,h7⟩:=h;exact b30 (PE.imp (r21 hc h1 h2 h3 h4 h5 h6) h7) rfl
theorem b60(h:(!isL x)=true):isL x=false:=by simpa using h
theorem x11(hL:isL x=true)(g:Good X G E x [e]):∃ a,x=.cons a .nil/\b20 X G E a e:=by
 cases x with
 |nil=>cases (show [e]=[] from g)
 |cons a r =>
  obtain⟨e',es,h,ns,ga,lr,gr⟩:=g;cases h;cases r with
  |nil=>exact⟨a,rfl,ga⟩|cons b q=>obtain⟨e,es,h,_⟩:=gr;cases h
  |_=>cases lr
 |_=>cases hL
theorem S80{lm:Bool}{G:Gs}{own:Nat}{capt:List Nat}{p:Pat}{it:It}{src cond el:Ex}(ihs:(∀ {X:Cx}{E:XK}{N:List Str}{sc:ú},XI lm X G E N sc->∀ {es:List Ï},mt lm G.fns G.nums src sc N es=true->Good X G E src es))(ihc:(∀ {X:Cx}{E:XK}{N:List Str}{sc:ú},XI false X G E N sc->∀ {es:List Ï},mt false G.fns G.nums cond sc N es=true->Good X G E cond es))(ihe:(∀ {X:Cx}{E:XK}{N:List Str}{sc:ú},XI false X G E N sc->∀ {es:List Ï},mt false G.fns G.nums el sc N es=true->Good X G E el es))
  {X:Cx}{E:XK}{N:List Str}{sc:ú} (x:XI lm X G E N sc) {elt tg iter:Ï}{ifs:List Ï}{csc:ú} (h:(c80 tg).length == own&&(b50 N capt).length == capt.length&&f91 csc sc N (c80 tg) (b50 N capt)&&h80 (c80 tg++(b50 N capt).map (·.1)) (λx=>(c80 tg).contains x) p tg&&isL src&&!isL el&&isL cond&&ifs.length<=1&&noStar elt&&B40 iter&&ifs.all (λc=>!ifB c) &&
    (match it with
    |.seq=>mt lm G.fns G.nums src sc N [iter]|.rng1=>opt (e92 iter) λr=>r.1.1 == ("range":Str)&&glob sc r.1.1&&mt lm G.fns G.nums src sc N [r.1.2.2.1]|.rng2=>opt (f02 iter) λr=>r.1.1 == ("range":Str)&&glob sc r.1.1&&mt lm G.fns G.nums src sc N [r.1.2.2.1,r.1.2.2.2.1]|.zip=>opt (f02 iter) λr=>r.1.1 == ("zip":Str)&&glob sc r.1.1&&k90 tg&&mt lm G.fns G.nums src sc N [r.1.2.2.1,r.1.2.2.2.1]
    |.enum=>opt (e92 iter) λr=>r.1.1 == ("enumerate":Str)&&glob sc r.1.1&&k90 tg&&mt lm G.fns G.nums src sc N [r.1.2.2.1])&&mt false G.fns G.nums cond csc (c80 tg++(b50 N capt).map (·.1)) ifs&&mt false G.fns G.nums el csc (c80 tg++(b50 N capt).map (·.1)) [elt]):H60 X G E (.comp own capt p it src cond el) elt tg iter ifs csc:=by
 simp only[Á,beq_iff_eq,decide_eq_true_eq] at h;obtain⟨⟨⟨⟨⟨⟨⟨⟨⟨⟨⟨⟨⟨h1,h2⟩,h3⟩,h4⟩,h5⟩,h6⟩,h7⟩,h8⟩,h9⟩,h10⟩,h11⟩,h12⟩,h13⟩,h14⟩:=h;subst h1;have c:=D22 h3;have hi:PI X tg iter (tIt X.K G E it src):=by
  cases it with
  |seq =>
   obtain⟨a,rfl,ga⟩:=x11 h5 (ihs x h12);exact Q81 ga
  |rng1 =>
   obtain⟨⟨⟨n,_,a,_⟩,rfl⟩,-,h12⟩:=a50 h12;simp only[Á,beq_iff_eq] at h12;exact w31 x h12.1.1 h12.1.2 h5 (ihs x h12.2)
  |rng2 =>
   obtain⟨⟨⟨n,_,a,b,_⟩,rfl⟩,-,h12⟩:=a50 h12;simp only[Á,beq_iff_eq] at h12;exact w41 x h12.1.1 h12.1.2 h5 (ihs x h12.2)
  |zip =>
   obtain⟨⟨⟨n,_,a,b,_⟩,rfl⟩,-,h12⟩:=a50 h12;simp only[Á,beq_iff_eq] at h12;exact w71 x h12.1.2 h12.1.1.1 h12.1.1.2 h5 (ihs x h12.2)
  |enum =>
   obtain⟨⟨⟨n,_,a,_⟩,rfl⟩,-,h12⟩:=a50 h12;simp only[Á,beq_iff_eq] at h12;exact g81 x h12.1.2 h12.1.1.1 h12.1.1.2 h5 (ihs x h12.2)
 have hc:(cond=.nil/\ifs=[])∨∃ q f,cond=.cons q .nil/\ifs=[f]/\∀ cl C s H fp,PT (b90 X (d00 (c80 tg) (b50 N capt)) csc cl C s H fp) f (tT X.K G EF q):=by
  match ifs,h8,h11,h13 with
  |[],_,_,h13 =>
   cases cond with
   |nil=>exact .inl ⟨rfl,rfl⟩|cons a r=>cases h13
   |_=>cases h7
  |[f],_,h11,h13 =>
   cases cond with
   |nil=>cases h13
   |cons a r =>
    have h13':(noStar f&&!isL a&&isL r&&mt false G.fns G.nums a csc (c80 tg++(b50 N capt).map (·.1)) [f]&&mt false G.fns G.nums r csc (c80 tg++(b50 N capt).map (·.1)) [])=true:=h13;simp only[Á] at h13';have rn:r=.nil:=by
     cases r with
     |nil=>rfl|cons b q=>cases h13'.2
     |_=>cases h13'.1.1.2
    subst rn;simp only[Â1,all_nil,Ï4] at h11;refine .inr ⟨a,f,rfl,rfl,λcl C s H fp=>?_⟩;obtain⟨e',es,he,ns,ga,lr,gr⟩:=ihc (w91 x c cl C s H fp) h13;cases he;exact ga.pt (Z21 h11)
   |_=>cases h7
 refine D32 x c (h01 h2) h4 hi h10 hc λcl C s H fp=>?_;exact(b00 (b60 h6) (ihe (w91 x c cl C s H fp) h14)).pe
theorem q12:∀ (t:Ex) {lm:Bool}{G:Gs}{X:Cx}{E:XK}{N:List Str}{sc:ú},XI lm X G E N sc->∀ {es:List Ï},mt lm G.fns G.nums t sc N es=true->Good X G E t es:=by
 intro t
 induction t with
 |nil =>
  intro lm G X E N sc x es h;exact Ð5.mp h
 |cons a r iha ihr =>
  intro lm G X E N sc x es h;cases es with
  |nil=>cases h
  |cons e es =>
   have h:(noStar e&&!isL a&&isL r&&mt lm G.fns G.nums a sc N [e]&&mt lm G.fns G.nums r sc N es)=true:=h;simp only[Á] at h;obtain⟨⟨⟨⟨h1,h2⟩,h3⟩,h4⟩,h5⟩:=h;exact⟨e,es,rfl,h1,b00 (b60 h2) (iha x h4),h3,ihr x h5⟩
 |var i =>
  intro lm G X E N sc x es h;obtain⟨⟨q,rfl⟩,-,h⟩:=a50 h;simp only[Á,beq_iff_eq] at h;exact b80 rfl (B52 x h.1 h.2)
 |con d =>
  intro lm G X E N sc x es h;rcases (Å5 _ _).mp h with h | h
  ·obtain⟨⟨q,rfl⟩,-,h⟩:=a50 h;exact b80 rfl (B62 h)
  ·obtain⟨⟨p,rfl⟩,-,h⟩:=a50 h;cases d with
   |dct=>exact b80 rfl B72|_=>cases h
 |gint g i =>
  intro lm G X E N sc x es h;obtain⟨⟨⟨n,p⟩,rfl⟩,-,h⟩:=a50 h;simp only[Á,beq_iff_eq,Ò7] at h;obtain⟨⟨rfl,h2⟩,h3⟩:=h;exact b80 rfl (o02 x h2 h3)
 |tup as ih =>
  intro lm G X E N sc x es h;obtain⟨⟨q,rfl⟩,-,h⟩:=a50 h;simp only[Á] at h;exact b80 rfl (B82 h.1 (ih x h.2))
 |lst as ih =>
  intro lm G X E N sc x es h;obtain⟨⟨q,rfl⟩,-,h⟩:=a50 h;simp only[Á] at h;exact b80 rfl (B92 h.1 (ih x h.2))
 |bin o a b iha ihb =>
  intro lm G X E N sc x es h;obtain⟨⟨⟨l,op,r,p⟩,rfl⟩,-,h⟩:=a50 h;simp only[Á,beq_iff_eq] at h;obtain⟨⟨⟨⟨rfl,h2⟩,h3⟩,h4⟩,h5⟩:=h;exact b80 rfl (C02 (b00 (b60 h2) (iha x h4)) (b00 (b60 h3) (ihb x h5)))
 |cmp o a b iha ihb =>
  intro lm G X E N sc x es h;obtain⟨⟨⟨l,op,r,p⟩,rfl⟩,-,h⟩:=a50 h;simp only[Á,beq_iff_eq] at h;obtain⟨⟨⟨⟨⟨rfl,h1⟩,h2⟩,h3⟩,h4⟩,h5⟩:=h;exact b80 rfl (C12 x h1 (b00 (b60 h2) (iha x h4)) (b00 (b60 h3) (ihb x h5)))
 |neg a ih =>
  intro lm G X E N sc x es h;obtain⟨⟨q,rfl⟩,-,h⟩:=a50 h;simp only[Á] at h;exact b80 rfl (C22 (b00 (b60 h.1) (ih x h.2)))
 |not a ih =>
  intro lm G X E N sc x es h;obtain⟨⟨q,rfl⟩,-,h⟩:=a50 h;simp only[Á] at h;obtain⟨⟨h1,h2⟩,h3⟩:=h;exact b80 rfl (C32 (b00 (b60 h1) (ih x h3)) (Z21 h2))
 |and a b iha ihb =>
  intro lm G X E N sc x es h;obtain⟨⟨⟨l,r,vs,p⟩,rfl⟩,-,h⟩:=a50 h;simp only[Á] at h;obtain⟨⟨⟨⟨h1,h2⟩,h3⟩,h4⟩,h5⟩:=h;refine b80 rfl (C42 (b00 (b60 h1) (iha x h4)) (Z21 h3) ?_);cases vs with
  |nil =>
   rw[if_pos (show([]:List Ï).isEmpty=true from rfl),Á] at h5;exact o22 (b00 (b60 h2) (ihb x h5.2)) (Z21 h5.1)
  |cons v vs =>
   rw[if_neg (by exact Ò)] at h5
   exact b00 (b60 h2) (ihb x h5)
 |or a b iha ihb =>
  intro lm G X E N sc x es h;obtain⟨⟨⟨l,r,vs,p⟩,rfl⟩,-,h⟩:=a50 h;simp only[Á] at h;obtain⟨⟨⟨⟨h1,h2⟩,h3⟩,h4⟩,h5⟩:=h;refine b80 rfl (P12 (b00 (b60 h1) (iha x h4)) (Z21 h3) ?_);cases vs with
  |nil =>
   rw[if_pos (show([]:List Ï).isEmpty=true from rfl),Á] at h5;exact o22 (b00 (b60 h2) (ihb x h5.2)) (Z21 h5.1)
  |cons v vs =>
   rw[if_neg (by exact Ò)] at h5
   exact b00 (b60 h2) (ihb x h5)
 |orT a b iha ihb =>
  intro lm G X E N sc x es h;obtain⟨⟨⟨l,r,vs,p⟩,rfl⟩,-,h⟩:=a50 h;simp only[Á] at h;obtain⟨⟨⟨⟨h1,h2⟩,h3⟩,h4⟩,h5⟩:=h;cases vs with
  |nil=>exact b80 rfl (C52 (b00 (b60 h1) (iha x h4)) (b00 (b60 h2) (ihb x h5)))|cons v vs=>cases h3
 |ite c a b ihc iha ihb =>
  intro lm G X E N sc x es h;obtain⟨⟨q,rfl⟩,-,h⟩:=a50 h;simp only[Á] at h;obtain⟨⟨⟨⟨⟨⟨h1,h2⟩,h3⟩,h4⟩,h5⟩,h6⟩,h7⟩:=h;exact b80 rfl (C62 (b00 (b60 h1) (ihc x h5)) (Z21 h4) (b00 (b60 h2) (iha x h6)) (b00 (b60 h3) (ihb x h7)))
 |ch o o' a b c iha ihb ihc =>
  intro lm G X E N sc x es h;obtain⟨⟨⟨l,op,op',r,s,p⟩,rfl⟩,-,h⟩:=a50 h;simp only[Á,beq_iff_eq] at h;obtain⟨⟨⟨⟨⟨⟨⟨⟨rfl,rfl⟩,h1⟩,h2⟩,h3⟩,h4⟩,h5⟩,h6⟩,h7⟩:=h;exact b80 rfl (P22 x h1 (b00 (b60 h2) (iha x h5)) (b00 (b60 h3) (ihb x h6)) (b00 (b60 h4) (ihc x h7)))
 |bf f as ih =>
  intro lm G X E N sc x es h;obtain⟨⟨q,rfl⟩,-,h⟩:=a50 h;simp only[Á,beq_iff_eq] at h;obtain⟨⟨⟨⟨h1,h2⟩,h3⟩,h4⟩,h5⟩:=h;exact b80 rfl (P32 x h1 h2 h3 h4 (ih x h5))
 |isi t a ih =>
  intro lm G X E N sc x es h;obtain⟨⟨⟨n,q,e,ty,p⟩,rfl⟩,-,h⟩:=a50 h;simp only[Á,beq_iff_eq] at h;obtain⟨⟨⟨⟨⟨h1,h2⟩,h3⟩,h4⟩,h5⟩,h6⟩:=h;have g:=b00 (b60 h4) (ih x h5);refine b80 rfl ?_;have one:∀ t:Ty,t≠.seq->(opt (shN ty) λq=>q.1.1 == À6 (tyN t)&&glob sc (À6 (tyN t)))=true->b20 X G E (.isi t a) (.Call (.Name n q) [e,ty] [] p):=λt hs h6=>by
   obtain⟨⟨⟨a,_⟩,rfl⟩,-,h6⟩:=a50 h6;simp only[Á,beq_iff_eq] at h6;obtain⟨rfl,k1⟩:=h6;exact p22 x hs k1 h1 h2 h3 g
  cases t with
  |seq =>
   obtain⟨⟨⟨a,_,b,_,_,_⟩,rfl⟩,-,h6⟩:=a50 h6;simp only[Á,beq_iff_eq] at h6;obtain⟨⟨⟨rfl,rfl⟩,k1⟩,k2⟩:=h6;exact p32 x k1 k2 h1 h2 h3 g
  |_=>exact one _ (λh=>by cases h) h6
 |idx a i iha ihi =>
  intro lm G X E N sc x es h;obtain⟨⟨q,rfl⟩,-,h⟩:=a50 h;simp only[Á] at h;obtain⟨⟨⟨⟨h1,h2⟩,h3⟩,h4⟩,h5⟩:=h;exact b80 rfl (C82 h1 (b00 (b60 h2) (iha x h4)) (b00 (b60 h3) (ihi x h5)))
 |sl a lo hi iha ihl ihh =>
  intro lm G X E N sc x es h;obtain⟨⟨q,rfl⟩,-,h⟩:=a50 h;simp only[Á] at h;obtain⟨⟨⟨⟨⟨h1,h2⟩,h3⟩,h4⟩,h5⟩,h6⟩:=h;exact b80 rfl (P42 (b00 (b60 h1) (iha x h4)) h2 h3 (ihl x h5) (ihh x h6))
 |call f as ih =>
  intro lm G X E N sc x es h;obtain⟨⟨⟨n,q,e,l,p⟩,rfl⟩,-,h⟩:=a50 h;simp only[Á] at h;obtain⟨⟨⟨h1,h2⟩,h3⟩,h4⟩:=h;obtain⟨pr,hf,h1'⟩:=a50 h1;simp only[Á,beq_iff_eq] at h1';obtain⟨rfl,h7⟩:=h1';exact b80 rfl (s_call x hf h7 h2 h3 (ih x h4))
 |comp own capt p it src cond el ihs ihc ihe =>
  intro lm G X E N sc x es h;obtain⟨⟨q,rfl⟩,-,h⟩:=a50 h;exact b80 rfl ((S80 ihs ihc ihe x h).good x.calm)
 |lrng b as ih =>
  intro lm G X E N sc x es h;obtain⟨⟨⟨n,p,m,q,a,r,t⟩,rfl⟩,-,h⟩:=a50 h;simp only[Á,beq_iff_eq] at h;obtain⟨⟨⟨⟨⟨⟨h1,h2⟩,h3⟩,h4⟩,h5⟩,h7⟩,h6⟩:=h;subst h1;subst h2;cases a with
  |nil=>simp at h7|cons a l=>exact b80 rfl (p62 x h3 h4 h5 (ih x h6))
 |callv i l as ih =>
  intro lm G X E N sc x es h;obtain⟨⟨⟨n,p,e,l',pos⟩,rfl⟩,-,h⟩:=a50 h;simp only[Á,beq_iff_eq] at h;obtain⟨⟨⟨⟨h1,h2⟩,h3⟩,h4⟩,h5⟩:=h;refine b80 rfl (Z51 x h1 h2 (λq hq=>?_) h4 (ih x h5));obtain⟨⟨nm,ps⟩,r1,r2⟩:=a50 (ç.mp h3 q hq);simp only[Á,beq_iff_eq] at r2;exact⟨ps,by rw[r1,← r2.1],r2.2⟩
 |zget i k =>
  intro lm G X E N sc x es h;obtain⟨⟨⟨n,p,j,c,q,r⟩,rfl⟩,-,h⟩:=a50 h;simp only[Á,beq_iff_eq] at h;obtain⟨⟨h1,h2⟩,h3⟩:=h;have h3:j=(k:Int):=h3;subst h3;exact b80 rfl (p42 x h1 h2)
 |refd capt a ih =>
  intro lm G X E N sc x es h;obtain⟨⟨⟨n,p,body,lsc,lpos,pos⟩,rfl⟩,-,h⟩:=a50 h;simp only[Á,beq_iff_eq] at h;obtain⟨⟨⟨⟨⟨⟨h1,h2⟩,h3⟩,h4⟩,h5⟩,h6⟩,h7⟩:=h;have h2:n="_law_refused":=h2;subst h2;exact b80 rfl (p92 x h1 h3 h4 h5 (b60 h6) λk X E xl=>ih xl h7)
theorem sound(G:Gs)(t:Ex)(x:XI lm X G E N sc)(h:mt lm G.fns G.nums t sc N es=true):Good X G E t es:=q12 t x h
end
open Classical in
def hw(ow:Nat->Option Æ)(H:Hp):Hp:=λb=>if ∃ i,ow i=some b then none else H b
section
variable {K:Â}{ow:Nat->Option Æ}{H H':Hp}
theorem i70:a20 (hw ow H) H:=λb o e=>by
 unfold hw at e;split at e
 ·cases e
 ·exact e
theorem h40(h:H b=some o)(n:∀ i,ow i≠some b):hw ow H b=some o:=by
 unfold hw;rw[if_neg (λ⟨i,e⟩=>n i e)];exact h
theorem E60(h:hw ow H b=some o):H b=some o/\∀ i,ow i≠some b:=by
 refine⟨i70 b o h,λi e=>?_⟩;unfold hw at h;rw[if_pos ⟨i,e⟩] at h;cases h
theorem d30(e:a20 H H'):a20 (hw ow H) (hw ow H'):=λb o h=>by
 obtain⟨h1,h2⟩:=E60 h;exact h40 (e b o h1) h2
theorem x60:hw (λ_=>none) H=H:=by
 funext b
 unfold hw;rw[if_neg (λ⟨i,e⟩=>by cases e)]
theorem x21(h:SqT K H a xs)(hl:∀ i b,ow i=some b->∃ ys,H b=some (.lst ys)):SqT K (hw ow H) a xs:=by
 rcases h with (h | ⟨o,h⟩) | h
 ·refine .inl (.inl (h40 h λi e=>?_));obtain⟨ys,q⟩:=hl i a e;rw[h] at q;cases q
 ·refine .inl (.inr ⟨o,h40 h λi e=>?_⟩);obtain⟨ys,q⟩:=hl i a e;rw[h] at q;cases q
 ·exact .inr h
mutual
theorem M40(hl:∀ i b,ow i=some b->∃ ys,H b=some (.lst ys)):∀ {d:D}{v:V},bare d=true->Hd K H d v->Hd K (hw ow H) d v
 |.non,_,_,h=>by rw[h.u62];exact Hd.non|.bl _,_,_,h=>by rw[h.bl_];exact Hd.bl|.int _,_,_,h=>by rw[h.i90];exact Hd.int|.str _,_,_,h=>by rw[h.z42];exact Hd.str
 |.tup l,_,b,h=>by
  obtain⟨a,xs,rfl,h1,h2⟩:=h.D90;exact Hd.tup (x21 h1 hl) (C10 hl (by simpa [bare] using b) h2)
 |.lst _,_,b,_=>by cases b
 |.dct,_,b,_=>by cases b
theorem C10(hl:∀ i b,ow i=some b->∃ ys,H b=some (.lst ys)):∀ {ds:List D}{vs:List V},j10 ds=true->HdA K H ds vs->HdA K (hw ow H) ds vs
 |[],_,_,h=>by rw[h.f20];exact .nil
 |d::ds,_,b,h=>by
  obtain⟨x,r,rfl,h1,h2⟩:=h.c00;simp only[j10,Á] at b;exact .cons (M40 hl b.1 h1) (C10 hl b.2 h2)
end
end
def RvW(K:Â)(zA:Option Æ)(ow:Nat->Option Æ)(H:Hp)(i:Nat):S->V->Prop
 |.d x,v=>ow i=none/\Hd K (hw ow (hz zA H)) x v|.fr xs,v=>∃ a ys,ow i=some a/\v=.ref a/\H a=some (.lst ys)/\HdA K (hw ow (hz zA H)) xs ys|.z,v=>ow i=none/\∃ a,zA=some a/\v=.ref a|.fn n,v=>ow i=none/\FnK K n v
structure RW(K:PySem.W.Frag)(H0:Hp)(zE zA:Option Addr)(ow:Nat->Option Addr)(H:Hp)(ρ:Env)(σ:L2.St):Prop where
 len:ρ.length=σ.length
 inj:∀ i j a,ow i=some a->ow j=some a->i=j
 zne:∀ i a,ow i=some a->zA≠some a
 own:∀ i a,ow i=some a->∃ xs,ρ[i]?=some (some (.fr xs))
 wor:∀ i s,ρ[i]?=some (some s)->∃ v,σ[i]?=some (some v)/\RvW K zA ow H i s v
 ext:Ext zE H0 H
 zok:zA=zE∨(zE=none/\∀ a,zA=some a->H0 a=none)
 new:∀ i a,ow i=some a->H0 a=none
section
variable {K:Â}{H0 H H':Hp}{zE zA:Option Æ}{ow:Nat->Option Æ}{ρ:Env}{σ:L2.St}
theorem RW.lst(r:RW K H0 zE zA ow H ρ σ):∀ i a,ow i=some a->∃ ys,H a=some (.lst ys):=λi a e=>by
 obtain⟨xs,h⟩:=r.own i a e;obtain⟨v,h1,a',ys,h2,h3,h4,h5⟩:=r.wor i _ h;rw[e] at h2;cases h2;exact⟨ys,h4⟩
theorem RW.a12(r:RW K H0 zE zA ow H ρ σ):∀ i a,ow i=some a->∃ ys,hz zA H a=some (.lst ys):=λi a e=>by
 obtain⟨ys,h⟩:=r.lst i a e;exact⟨ys,d10 h (r.zne i a e)⟩
theorem RvW.pl{i:Nat}{s:S}{v:V}(h:RvW K zA ow H i s v)(hz':∀ a,ow i=some a->zA≠some a):RvP K zA H s v:=by
 cases s with
 |d x=>exact h.2.same i70|z=>exact h.2|fn n=>exact h.2
 |fr xs =>
  obtain⟨a,ys,h1,rfl,h3,h4⟩:=h;exact Hd.lst (d10 h3 (hz' a h1)) (h4.same i70)
theorem RW.S90(r:RW K H0 zE zA ow H ρ σ):z60 K zA H ρ σ:=λi s e=>by
 obtain⟨v,h1,h2⟩:=r.wor i s e;exact⟨v,h1,h2.pl λa q=>r.zne i a q⟩
theorem RvW.mono{i:Nat}{s:S}{v:V}(h:RvW K zA ow H i s v)(hz':∀ a,ow i=some a->zA≠some a)(x:Ext zA H H'):RvW K zA ow H' i s v:=by
 cases s with
 |d y=>exact⟨h.1,h.2.same (d30 x)⟩|z=>exact h|fn n=>exact h
 |fr xs =>
  obtain⟨a,ys,h1,rfl,h3,h4⟩:=h;exact⟨a,ys,h1,rfl,x.at h3 (hz' a h1),h4.same (d30 x)⟩
theorem Q91(zA:Option Æ)(H:Hp):a20 (hz zA H) (hz none H):=λ_ _ h=>d10 (o20 h).1 (λq=>nomatch q) (s20 h)
theorem x31(e:Ext zE H0 H)(zok:zA=zE∨(zE=none/\∀ a,zA=some a->H0 a=none))(x:Ext zA H H'):Ext zE H0 H':=by
 rcases zok with rfl | ⟨rfl,hn⟩
 ·exact e.trans x
 ·refine⟨λb o h=>?_,λb ps h=>let ⟨qs,q⟩:=e.tbl b ps h;x.tbl b qs q⟩;have h1:=e.same b o h;refine d10 (x.at (o20 h1).1 (λq=>?_) (s20 h1)) (λq=>nomatch q) (s20 h1);have h0:=(o20 h).1;rw[hn b q] at h0;cases h0
theorem RW.mono(r:RW K H0 zE zA ow H ρ σ)(x:Ext zA H H'):RW K H0 zE zA ow H' ρ σ :=
 ⟨r.len,r.inj,r.zne,r.own,λi s e=>let ⟨v,h1,h2⟩:=r.wor i s e;⟨v,h1,h2.mono (λa q=>r.zne i a q) x⟩,x31 r.ext r.zok x,r.zok,r.new⟩
theorem RW.young(r:RW K H0 zE zA ow H ρ σ)(h:H a=none)(n:zA≠some a):H0 a=none/\zE≠some a:=by
 have hE:zE≠some a:=λq=>by
  rcases r.zok with rfl | ⟨rfl,_⟩
  ·exact n q
  ·cases q
 exact⟨r.ext.free h hE,hE⟩
theorem RW.out(r:RW K H0 zE zA ow H ρ σ){s:S}{v:V}(hs:s≠.z)(x:Ext zA H H')(h:RvS K zA H H' s v):RvS K zE H0 H' s v:=by
 have sm:a20 (hz zA H') (hz zE H'):=by
  rcases r.zok with rfl | ⟨rfl,_⟩
  ·exact a20.refl _
  ·exact Q91 _ _
 cases s with
 |d y=>exact Hd.same sm h|z=>exact absurd rfl hs|fn n=>exact h
 |fr xs =>
  obtain⟨a,ys,rfl,h1,h2,h3,h4⟩:=h;obtain⟨k1,k2⟩:=r.young h1 h2;exact⟨a,ys,rfl,k1,k2,h3,h4.same (D30 λb o _ q=>sm b o q)⟩
theorem RW.P52(r:RW K H0 zE zA ow H ρ σ){i:Nat}{s:S}(hs:s≠.z)(e:ρ[i]?=some (some s)):∃ v,σ[i]?=some (some v)/\RvS K zE H0 H s v:=by
 obtain⟨v,h1,h2⟩:=r.wor i s e;have sm:a20 (hz zA H) (hz zE H):=by
  rcases r.zok with rfl | ⟨rfl,_⟩
  ·exact a20.refl _
  ·exact Q91 _ _
 refine⟨v,h1,?_⟩;cases s with
 |d y=>exact Hd.same (a20.trans i70 sm) h2.2|z=>exact absurd rfl hs|fn n=>exact h2.2
 |fr xs =>
  obtain⟨a,ys,k1,rfl,k3,k4⟩:=h2;have n:=r.zne i a k1;have hE:zE≠some a:=λq=>by
   rcases r.zok with rfl | ⟨rfl,_⟩
   ·exact n q
   ·cases q
  refine⟨a,ys,rfl,r.new i a k1,hE,k3,k4.same λb o q=>?_⟩;obtain⟨q1,q2⟩:=E60 q;exact K60 (sm b o q1) λz=>q2 i (by rw[z];exact k1)
theorem RW.Z20(r:RW K H0 zE zA ow H ρ σ):RW K H0 zE zA (λ_=>none) H (Z20 ρ) σ:=by
 refine⟨by unfold Q.Z20;rw[È];exact r.len,λi j a h=>(by cases h),λi a h=>(by cases h),λi a h=>(by cases h),λi s e=>?_,r.ext,r.zok,λi a h=>(by cases h)⟩
 unfold Q.Z20 at e;rw[Ø] at e;obtain⟨o,e1,e2⟩:=Í.mp e;cases o with
 |none=>cases e2
 |some s0 =>
  cases e2;obtain⟨v,h1,h2⟩:=r.S90 i s0 e1;refine⟨v,h1,?_⟩;cases s0 with
  |d y=>exact⟨rfl,by rw[x60];exact h2⟩|fr xs=>exact⟨rfl,by rw[x60];exact h2⟩|z=>exact⟨rfl,h2⟩|fn n=>exact⟨rfl,h2⟩
def ow0(ow:Nat->Option Æ)(i:Nat):Nat->Option Addr:=λj=>if j=i then none else ow j
def ow1(ow:Nat->Option Æ)(i:Nat)(a:Æ):Nat->Option Addr:=λj=>if j=i then some a else ow j
theorem RvW.move{ow':Nat->Option Æ}{j:Nat}{s:S}{v:V}(h:RvW K zA ow H j s v)(e:ow' j=ow j)(sm:a20 (hw ow (hz zA H)) (hw ow' (hz zA H')))(hk:∀ a,ow j=some a->H' a=H a):RvW K zA ow' H' j s v:=by
 cases s with
 |d y=>exact⟨by rw[e];exact h.1,h.2.same sm⟩|z=>exact⟨by rw[e];exact h.1,h.2⟩|fn n=>exact⟨by rw[e];exact h.1,h.2⟩
 |fr xs =>
  obtain⟨a,ys,h1,rfl,h3,h4⟩:=h;exact⟨a,ys,by rw[e];exact h1,rfl,by rw[hk a h1];exact h3,h4.same sm⟩
theorem getElem?_set'{α:Type}{l:List α}{i j:Nat}{x y:α}(h:(l.set i x)[j]?=some y):(j=i/\y=x/\i < l.length)∨(j≠i/\l[j]?=some y):=by
 by_cases hj:j=i
 ·subst hj;have hlt:j < l.length:=by
   have:=(Ú.mp h).1;simpa using this
  rw[ë hlt] at h;cases h;exact .inl ⟨rfl,rfl,hlt⟩
 ·rw[ã (Â2 hj)] at h;exact .inr ⟨hj,h⟩
theorem RW.P62(r:RW K H0 zE zA ow H ρ σ){i:Nat}(h:Hd K (hw ow (hz zA H)) x v):RW K H0 zE zA (ow0 ow i) H (ρ.set i (some (.d x))) (σ.set i (some v)):=by
 have sub:∀ j a,ow0 ow i j=some a->j≠i/\ow j=some a:=λj a e=>by
  unfold ow0 at e;split at e
  ·cases e
  ·rename_i n;exact⟨n,e⟩
 have sm:a20 (hw ow (hz zA H)) (hw (ow0 ow i) (hz zA H)):=λb o e=>by
  obtain⟨e1,e2⟩:=E60 e;exact h40 e1 λj q=>e2 j (sub j b q).2
 refine⟨by rw[Á0,Á0];exact r.len,λj k a h1 h2=>r.inj j k a (sub j a h1).2 (sub k a h2).2,λj a h1=>r.zne j a (sub j a h1).2,λj a h1=>?_,λj s e=>?_,r.ext,r.zok,λj a h1=>r.new j a (sub j a h1).2⟩
 ·obtain⟨n,h2⟩:=sub j a h1;obtain⟨xs,h3⟩:=r.own j a h2;exact⟨xs,by rw[ã (Â2 n)];exact h3⟩
 ·rcases getElem?_set' e with ⟨rfl,e1,hlt⟩ | ⟨n,e1⟩
  ·cases e1;exact⟨v,ë (by rw[← r.len];exact hlt),by unfold ow0;exact if_pos rfl,h.same sm⟩
  ·obtain⟨w,h1,h2⟩:=r.wor j s e1;exact⟨w,by rw[ã (Â2 n)];exact h1,h2.move (by unfold ow0;exact if_neg n) sm λ_ _=>rfl⟩
theorem RW.D42(r:RW K H0 zE zA ow H ρ σ){i:Nat}{t:S}{v:V}(h:RvW K zA (ow0 ow i) H i t v):RW K H0 zE zA (ow0 ow i) H (ρ.set i (some t)) (σ.set i (some v)):=by
 have sub:∀ j a,ow0 ow i j=some a->j≠i/\ow j=some a:=λj a e=>by
  unfold ow0 at e;split at e
  ·cases e
  ·rename_i n;exact⟨n,e⟩
 have sm:a20 (hw ow (hz zA H)) (hw (ow0 ow i) (hz zA H)):=λb o e=>by
  obtain⟨e1,e2⟩:=E60 e;exact h40 e1 λj q=>e2 j (sub j b q).2
 refine⟨by rw[Á0,Á0];exact r.len,λj k a h1 h2=>r.inj j k a (sub j a h1).2 (sub k a h2).2,λj a h1=>r.zne j a (sub j a h1).2,λj a h1=>?_,λj s e=>?_,r.ext,r.zok,λj a h1=>r.new j a (sub j a h1).2⟩
 ·obtain⟨n,h2⟩:=sub j a h1;obtain⟨xs,h3⟩:=r.own j a h2;exact⟨xs,by rw[ã (Â2 n)];exact h3⟩
 ·rcases getElem?_set' e with ⟨rfl,e1,hlt⟩ | ⟨n,e1⟩
  ·cases e1;exact⟨v,ë (by rw[← r.len];exact hlt),h⟩
  ·obtain⟨w,h1,h2⟩:=r.wor j s e1;exact⟨w,by rw[ã (Â2 n)];exact h1,h2.move (by unfold ow0;exact if_neg n) sm λ_ _=>rfl⟩
theorem RW.P72(r:RW K H0 zE zA ow H ρ σ){i:Nat}(x:Ext zA H H')(hn:H a=none)(za:zA≠some a)(hl:H' a=some (.lst ys))(h:HdA K (hw (ow1 ow i a) (hz zA H')) xs ys)(hi:i < ρ.length) :
  RW K H0 zE zA (ow1 ow i a) H' (ρ.set i (some (.fr xs))) (σ.set i (some (.ref a))):=by
 have r':=r.mono x;have old:∀ j b,ow j=some b->b≠a:=λj b e q=>by
  obtain⟨zs,h1⟩:=r.lst j b e;rw[q,hn] at h1;cases h1
 have sub:∀ j b,ow1 ow i a j=some b->(j=i/\b=a)∨(j≠i/\ow j=some b):=λj b e=>by
  unfold ow1 at e;split at e
  ·rename_i n;cases e;exact .inl ⟨n,rfl⟩
  ·rename_i n;exact .inr ⟨n,e⟩
 have sm:a20 (hw ow (hz zA H)) (hw (ow1 ow i a) (hz zA H')):=λb o e=>by
  obtain⟨e1,e2⟩:=E60 e;have e3:=(o20 e1).1;have hb:b≠a:=λq=>by rw[q,hn] at e3;cases e3
  refine h40 (x b o e1) λj q=>?_;rcases sub j b q with ⟨_,q⟩ | ⟨_,q⟩
  ·exact hb q
  ·exact e2 j q
 refine⟨by rw[Á0,Á0];exact r.len,λj k b h1 h2=>?_,λj b h1=>?_,λj b h1=>?_,λj s e=>?_,r'.ext,r.zok,λj b h1=>?_⟩
 ·rcases sub j b h1 with ⟨q1,q2⟩ | ⟨q1,q2⟩
  ·rcases sub k b h2 with ⟨p1,p2⟩ | ⟨p1,p2⟩
   ·rw[q1,p1]
   ·exact absurd q2 (old k b p2)
  ·rcases sub k b h2 with ⟨p1,p2⟩ | ⟨p1,p2⟩
   ·exact absurd p2 (old j b q2)
   ·exact r.inj j k b q2 p2
 ·rcases sub j b h1 with ⟨_,q2⟩ | ⟨_,q2⟩
  ·rw[q2];exact za
  ·exact r.zne j b q2
 ·rcases sub j b h1 with ⟨q1,q2⟩ | ⟨q1,q2⟩
  ·rw[q1];exact⟨xs,ë hi⟩
  ·obtain⟨zs,h3⟩:=r.own j b q2;exact⟨zs,by rw[ã (Â2 q1)];exact h3⟩
 ·rcases getElem?_set' e with ⟨rfl,e1,hlt⟩ | ⟨n,e1⟩
  ·cases e1;exact⟨.ref a,ë (by rw[← r.len];exact hlt),a,ys,by unfold ow1;exact if_pos rfl,rfl,hl,h⟩
  ·obtain⟨w,h1,h2⟩:=r.wor j s e1;refine⟨w,by rw[ã (Â2 n)];exact h1,h2.move (by unfold ow1;exact if_neg n) sm λb q=>?_⟩
   obtain⟨zs,k⟩:=r.lst j b q;rw[k];exact x.at k (r.zne j b q)
 ·rcases sub j b h1 with ⟨_,q2⟩ | ⟨_,q2⟩
  ·rw[q2];exact(r.young hn za).1
  ·exact r.new j b q2
theorem RW.upd(r:RW K H0 zE zA ow H ρ σ){i:Nat}(e:ow i=some a)(h:HdA K (hw ow (hz zA H)) xs ys):RW K H0 zE zA ow (upd H a (.lst ys)) (ρ.set i (some (.fr xs))) σ:=by
 have za:=r.zne i a e;have sm:a20 (hw ow (hz zA H)) (hw ow (hz zA (L2.upd H a (.lst ys)))):=λb o q=>by
  obtain⟨e1,e2⟩:=E60 q;obtain⟨e3,e4⟩:=o20 e1;have hb:b≠a:=λz=>e2 i (by rw[z];exact e)
  exact h40 (d10 (by rw[a40 hb];exact e3) e4 (s20 e1)) e2
 obtain⟨xs0,h0⟩:=r.own i a e;have hi:i < ρ.length:=(Ú.mp h0).1;obtain⟨v0,s0,a0,ys0,q1,q2,q3,q4⟩:=r.wor i _ h0;rw[e] at q1;cases q1;refine⟨by rw[Á0];exact r.len,r.inj,r.zne,λj b h1=>?_,λj s q=>?_,⟨λb o q=>?_,λb ps q=>?_⟩,r.zok,r.new⟩
 ·by_cases hj:j=i
  ·subst hj;exact⟨xs,ë hi⟩
  ·obtain⟨zs,h3⟩:=r.own j b h1;exact⟨zs,by rw[ã (Â2 hj)];exact h3⟩
 ·rcases getElem?_set' q with ⟨rfl,e1,hlt⟩ | ⟨n,e1⟩
  ·cases e1;exact⟨v0,s0,a,ys,e,q2,a90,h.same sm⟩
  ·obtain⟨w,h1,h2⟩:=r.wor j s e1;refine⟨w,h1,h2.move rfl sm λb q=>?_⟩;have hb:b≠a:=λz=>n (r.inj j i b q (by rw[z];exact e))
   exact a40 hb
 ·obtain⟨e1,e2⟩:=o20 (r.ext b o q);have hb:b≠a:=λz=>by
   have:=(o20 q).1;rw[z,r.new i a e] at this;cases this
  exact d10 (by rw[a40 hb];exact e1) e2 (s20 q)
 ·obtain⟨qs,e1⟩:=r.ext.tbl b ps q;have hb:b≠a:=λz=>by rw[z,q3] at e1;cases e1
  exact⟨qs,by rw[a40 hb];exact e1⟩
end
end Q
namespace Q
open PySem L2 PySem.Spec PyProof.Rows
variable [TB:Tb]
def u82:Option Æ->Z->Z
 |none,_=>none|some _,z=>z
def o50(K:Â)(G:Gs)(E:XK)(H0:Hp)(zE:Option Æ)(B:Hp)(D:Ends):R O->Prop
 |.ok (.nx ρ) z=>∀ zA ow σ H,RW K H0 zE zA ow H ρ σ->d50 zA z H->a20 B (hw ow (hz zA H))->D.nx σ H|.ok (.rt s) z=>∀ v H,s≠.z->Ext zE H0 H->d50 zE (u82 zE z) H->RvS K zE H0 H s v->D.rt v H|.er c z=>∀ e H,Ext zE H0 H->d50 zE (u82 zE z) H->H e=none->E (.ref (G.cls c)) (some e) H
def tX(K:Â)(G:Gs)(E:XK)(H0:Hp)(zE:Option Æ)(x:Sm):TS:=λD σ H=>∃ zA ow ρ z r,RW K H0 zE zA ow H ρ σ/\d50 zA z H/\ex G.F zE.isNone x ρ z=some r/\o50 K G E H0 zE (hw ow (hz zA H)) D r
section
variable {K:Â}{G:Gs}{E:XK}{H0 H H':Hp}{zE zA:Option Æ}{ow:Nat->Option Æ}{ρ:Env}{σ:L2.St}{Dn:Ends}{z:Z}
theorem f12(zok:zA=zE∨(zE=none/\∀ a,zA=some a->H0 a=none))(st:d50 zA z H):d50 zE (u82 zE z) H:=by
 cases zE with
 |none=>exact⟨trivial,st.tab⟩
 |some a =>
  rcases zok with rfl | ⟨h,_⟩
  ·exact st
  ·cases h
theorem o50.er_(po:o50 K G E H0 zE B Dn (.er c z))(r:RW K H0 zE zA ow H ρ σ):EPost G zA E c z H:=λe H' x st n=>po e H' (x31 r.ext r.zok x) (f12 r.zok st) n
theorem o50.ers(po:o50 K G E H0 zE B Dn rr)(r:RW K H0 zE zA ow H ρ σ):∀ c z1,rr=.er c z1->EPost G zA E c z1 H:=λc z1 e=>by subst e;exact po.er_ r
theorem o50.mono(po:o50 K G E H0 zE B Dn rr)(h:a20 B B'):o50 K G E H0 zE B' Dn rr:=by
 match rr,po with
 |.ok (.nx _) _,po=>exact λzA ow σ H r st sm=>po zA ow σ H r st (a20.trans h sm)|.ok (.rt _) _,po=>exact po|.er _ _,po=>exact po
theorem q80(ow:Nat->Option Æ)(i:Nat):a20 (hw ow H) (hw (ow0 ow i) H):=λb o e=>by
 obtain⟨e1,e2⟩:=E60 e;refine h40 e1 λj q=>?_;unfold ow0 at q;split at q
 ·cases q
 ·exact e2 j q
theorem E70(ow:Nat->Option Æ):a20 (hw ow H) (hw (λ_=>none) H):=λb o e=>h40 (E60 e).1 λj q=>nomatch q
theorem K71(x:Ext zA H H')(hn:H a=none)(i:Nat):a20 (hw ow (hz zA H)) (hw (ow1 ow i a) (hz zA H')):=λb o e=>by
 obtain⟨e1,e2⟩:=E60 e;have e3:=(o20 e1).1;have hb:b≠a:=λq=>by rw[q,hn] at e3;cases e3
 refine h40 (x b o e1) λj q=>?_;unfold ow1 at q;split at q
 ·cases q;exact hb rfl
 ·exact e2 j q
theorem a71(e:ow i=some a):a20 (hw ow (hz zA H)) (hw ow (hz zA (upd H a o))):=λb u q=>by
 obtain⟨e1,e2⟩:=E60 q;obtain⟨e3,e4⟩:=o20 e1;have hb:b≠a:=λw=>e2 i (by rw[w];exact e)
 exact h40 (d10 (by rw[a40 hb];exact e3) e4 (s20 e1)) e2
mutual
theorem K81:∀ {p:Pat}{d:D}{ρ ρ':Env},e70 p d ρ=some ρ'->∀ {ow:Nat->Option Æ}{σ:L2.St}{v:V}{R:L2.St->Hp->Prop},RW K H0 zE zA ow H ρ σ->Hd K (hw ow (hz zA H)) d v ->
  (∀ ow' σ',RW K H0 zE zA ow' H ρ' σ'->a20 (hw ow (hz zA H)) (hw ow' (hz zA H))->R σ' H)->gP K p v σ H R
 |.v i,d,ρ,ρ',e,ow,σ,v,R,r,hd,k=>by
  unfold e70 at e;cases e;unfold gP;exact k _ _ (r.P62 hd) (q80 ow i)
 |.tup ps,d,ρ,ρ',e,ow,σ,v,R,r,hd,k=>by
  unfold e70 at e;cases d with
  |tup l =>
   obtain⟨a,xs,rfl,h1,h2⟩:=hd.D90;unfold gP;exact⟨a,xs,rfl,(a30 zA H).sqT (a20.sqT i70 h1),by rw[h2.length];exact E50 e,x41 e r h2 k⟩
  |_=>cases e
 |.nil,_,_,_,e,_,_,_,_,_,_,_=>by unfold e70 at e;cases e
 |.cons _ _,_,_,_,e,_,_,_,_,_,_,_=>by unfold e70 at e;cases e
theorem x41:∀ {r:Pat}{l:List D}{ρ ρ':Env},bindL r l ρ=some ρ'->∀ {ow:Nat->Option Æ}{σ:L2.St}{vs:List V}{R:L2.St->Hp->Prop},RW K H0 zE zA ow H ρ σ->HdA K (hw ow (hz zA H)) l vs ->
  (∀ ow' σ',RW K H0 zE zA ow' H ρ' σ'->a20 (hw ow (hz zA H)) (hw ow' (hz zA H))->R σ' H)->gL K r vs σ H R
 |.nil,l,ρ,ρ',e,ow,σ,vs,R,r,hd,k=>by
  unfold bindL at e;cases l with
  |nil =>
   cases e;unfold gL;exact⟨hd.f20,k ow σ r (a20.refl _)⟩
  |cons x l=>cases e
 |.cons p q,l,ρ,ρ',e,ow,σ,vs,R,r,hd,k=>by
  unfold bindL at e;cases l with
  |nil=>cases e
  |cons x l =>
   obtain⟨ρ1,e1,e2⟩:=Ì.mp e;obtain⟨v,ws,rfl,h1,h2⟩:=hd.c00;unfold gL;exact⟨v,ws,rfl,K81 e1 r h1 λow' σ' r' sm=>x41 e2 r' (h2.same sm) λow2 σ2 r2 sm2=>k ow2 σ2 r2 (a20.trans sm sm2)⟩
 |.v _,_,_,_,e,_,_,_,_,_,_,_=>by unfold bindL at e;cases e
 |.tup _,_,_,_,e,_,_,_,_,_,_,_=>by unfold bindL at e;cases e
end
theorem x51(r:RW K H0 zE zA ow H ρ σ)(s:S):∃ ow',RW K H0 zE zA ow' H (i50 s ρ) σ/\a20 (hw ow (hz zA H)) (hw ow' (hz zA H))/\(R60 s=true∨∀ i,ow' i=none):=by
 unfold i50;rw[R70];cases hb:R60 s with
 |true=>exact⟨ow,r,a20.refl _,.inl rfl⟩|false=>exact⟨_,r.Z20,E70 ow,.inr λ_=>rfl⟩
theorem h31{p:Pat}{s:S}{v:V}{ρ':Env}{R:L2.St->Hp->Prop}(r:RW K H0 zE zA ow H ρ σ)(x:Ext zA H H')(rv:RvS K zA H H' s v)(e:D80 p s (i50 s ρ)=some ρ')
  (k:∀ ow' σ',RW K H0 zE zA ow' H' ρ' σ'->a20 (hw ow (hz zA H)) (hw ow' (hz zA H'))->R σ' H'):gP K p v σ H' R:=by
 obtain⟨owk,r1,s1,b1⟩:=x51 r s;have r2:=r1.mono x;have s2:a20 (hw ow (hz zA H)) (hw owk (hz zA H')):=a20.trans s1 (d30 x);cases s with
 |d y =>
  have e':e70 p y (i50 (.d y) ρ)=some ρ':=by cases p <;> exact e
  refine K81 e' r2 ?_ λow' σ' r3 s3=>k ow' σ' r3 (a20.trans s2 s3);rcases b1 with b1 | b1
  ·exact M40 r2.a12 b1 rv
  ·have:owk=λ_=>none:=funext b1;subst this;rw[x60];exact rv
 |z =>
  cases p with
  |v i =>
   simp only[D80] at e;split at e
   ·cases e;unfold gP;exact k _ _ (r2.D42 (t:=.z) ⟨if_pos rfl,rv⟩) (a20.trans s2 (q80 owk i))
   ·cases e
  |_=>cases e
 |fn n =>
  cases p with
  |v i =>
   simp only[D80] at e;split at e
   ·cases e;unfold gP;exact k _ _ (r2.D42 (t:=.fn n) ⟨if_pos rfl,rv⟩) (a20.trans s2 (q80 owk i))
   ·cases e
  |_=>cases e
 |fr xs =>
  cases p with
  |v i =>
   simp only[D80] at e;split at e
   ·rename_i hi;cases e;unfold gP;obtain⟨a,ys,rfl,h1,h2,h3,h4⟩:=rv;refine k _ _ (r1.P72 x h1 h2 h3 ?_ hi) (a20.trans s1 (K71 x h1 i));rcases b1 with b1 | b1
    ·refine C10 (λj b q=>?_) b1 (h4.same (e50 a _));unfold ow1 at q;split at q
     ·cases q;exact⟨ys,d10 h3 h2⟩
     ·exact r2.a12 j b q
    ·refine h4.same λb o q=>?_;have hb:b≠a:=λw=>by subst w;unfold hide at q;rw[if_pos rfl] at q;cases q
     refine h40 (e50 a _ b o q) λj w=>?_;unfold ow1 at w;split at w
     ·cases w;exact hb rfl
     ·rw[b1 j] at w;cases w
   ·cases e
  |_=>cases e
end
end Q
namespace Q
open PySem L2 PySem.Spec PyProof.Rows
variable [TB:Tb]
theorem a22(h:k90 v=false):Ã8 [tg] v env=pure none:=by
 cases tg <;> first | rfl | (cases v <;> first | (cases h;done) | rfl)
theorem a32(h:vs.all (Ø4 8)=true):Ã8 [.Tuple ts k p] (.Tuple vs k' p') env=pure none:=by
 unfold Ã8;simp only[h,if_true];split
 ·rfl
 ·split
  ·rfl
  ·split
   ·rfl
   ·rfl
def x61(look:Str->Option É4):Ï->Bool
 |.Name id _=>look id != some .local|_=>true
theorem a42(h:ts.any (x61 env.kindOf)=true):Ã8 [.Tuple ts k p] (.Tuple vs k' p') env=pure none:=by
 have hl:∀ (l:Nat) (ts:List Ï),ts.any (x61 env.kindOf)=true->(ts.filterMap fun
   |.Name id pos=>if env.kindOf id == some .local&&pos.line == l then some id else none
   |_=>none).length < ts.length:=by
  intro l ts
  induction ts with
  |nil=>intro h;cases h
  |cons e r ih =>
   intro h;have le:=List.length_filterMap_le (fun
    |.Name id pos=>if env.kindOf id == some .local&&pos.line == l then some id else none
    |_=>none:Ï->Option Str) r
   rw[List.any_cons,Å5] at h;rw[À1];split
   ·rw[Ô];omega
   ·rename_i b hb;rcases h with h | h
    ·exfalso;cases e with
     |Name id pos =>
      have h':(env.kindOf id != some .local)=true:=h;simp only[bne_iff_ne,ne_eq] at h';simp[h'] at hb
     |_=>cases hb
    ·have:=ih h;rw[Ô,Ô];omega
 unfold Ã8;dsimp only;split
 ·rfl
 ·split
  ·rfl
  ·have:=hl ((ts.head?.map (·.pos.line)).getD 0) ts h;rw[if_pos];simp only[Å5,bne_iff_ne,ne_eq];exact .inl (å this)
theorem q22{x y:Str}{a b:Ï}{px py pt pt2:Pos}{k k2:Nat}{env:Ç4}(hb:env.blockKind=.function)(hx:env.kindOf x=some .local)(hy:env.kindOf y=some .local)(hxy:(x == y)=false)(hl:(py.line == px.line)=true)
  (ha:noStar a=true) (hb':noStar b=true) (hf:[a,b].all (Ø4 8)=false) (hc:[a,b].all (constantsAlone 8)=false) :
  Ã8 [.Tuple [.Name x px,.Name y py] k pt] (.Tuple [a,b] k2 pt2) env=pure (some [x,y]):=by
 have hbk:(env.blockKind != .function)=false:=by rw[hb];rfl
 have e1:(x == x)=true:=beq_self_eq_true x;have hyx:(y == x)=false:=by
  cases h:y == x with
  |false=>rfl|true=>rw[beq_iff_eq] at h;subst h;rw[e1] at hxy;cases hxy
 have hl2:(Ï.Name x px).pos.line=px.line:=rfl;have hl3:(Ï.Name y py).pos.line=py.line:=rfl;have hl':py.line=px.line:=by simpa using hl
 unfold Ã8;simp only[List.filterMap,List.head?,Ì6,Option.getD,hx,hy,hf,hc,hbk,hl2,hl'];simp[List.eraseDups,List.eraseDupsBy,List.eraseDupsBy.loop,hyx,hxy];intro h;rcases h with h | h
 ·cases a <;> first | (cases h;done) | (cases ha;done)
 ·cases b <;> first | (cases h;done) | (cases hb';done)
def T00:Ï->Bool
 |.ListComp ..=>false|.SetComp ..=>false|.DictComp ..=>false|_=>true
theorem v60(h:T00 v=true)(t:Option Ï):Ó0 v t n env=pure false:=by
 cases v <;> first | rfl | (cases h;done)
theorem T10(h:(match tg with | .Name ..=>true | _=>false)=false):Ó0 v (some tg) n env=pure false:=by
 cases v <;> first | rfl | (cases tg <;> first | rfl | (cases h;done))
theorem K91{el:Ï}{gs:List Comprehension}{sc:ú}{p px:Pos}{t:Str}{n:Nat}{env:Ç4}:∃ b,Ó0 (.ListComp el gs sc p) (some (.Name t px)) n env=pure b:=⟨_,rfl⟩
structure XS(lm:Bool)(X:Cx)(G:Gs)(E:XK)(N:List Str)(sc:Scope)(cn:List Str):Prop extends XI lm X G E N sc where
 sco:X.env.scope=sc
 fnk:sc.kind=.function
 own:PassesOwn (model X.prog X.w) X.A X.env X.xe
 can:L00 X E
 fnx:∀ x,X.fn x=true
 cls:∀ c x,cn[c]?=some x->X.mg x=some (.ref (G.cls c))/\PySem.W.excIn X.K (G.cls c) [.type "ValueError",.type "Exception",.type "BaseException",.type "object"] "ValueError.__new__"=true
def E80(sc:ú)(x:Str):Bool:=sc.names.lookup x == some .local || sc.names.lookup x == some .cell
section
variable {lm:Bool}{X:Cx}{G:Gs}{E:XK}{N:List Str}{sc:ú}{cn:List Str}{H0:Hp}{zE:Option Æ}
theorem XS.loc(x:XS lm X G E N sc cn):K11 X N (E80 sc):=by
 refine⟨x.hN,x.nd,λy h=>?_,λy _=>.inl (x.fnx y),x.calm⟩;unfold E80 at h;rw[Å5,beq_iff_eq,beq_iff_eq] at h;rw[x.sco];exact h
theorem XS.bk(x:XS lm X G E N sc cn):X.env.blockKind=.function:=by
 unfold Env.blockKind;rw[x.sco,x.fnk];rfl
theorem PS.imp{st:Ä4}{t t':TS}(h:PS X st t)(i:∀ D σ H,t' D σ H->t D σ H):PS X st t':=λpins s σ H D I q=>h pins s σ H D I (i _ _ _ q)
theorem PSs.imp{st:List Ä4}{t t':TS}(h:PSs X st t)(i:∀ D σ H,t' D σ H->t D σ H):PSs X st t':=λpins s σ H D I q=>h pins s σ H D I (i _ _ _ q)
theorem D52:PSs X [] (tX X.K G E H0 zE .nil):=PSs.imp o91 λD σ H q=>by
 obtain⟨zA,ow,ρ,z,r,rw,st,e,po⟩:=q;cases e;exact po zA ow σ H rw st (a20.refl _)
theorem D62{s r:Sm}{st:Ä4}{rest:List Ä4}(h1:PS X st (tX X.K G E H0 zE s))(h2:PSs X rest (tX X.K G E H0 zE r)):PSs X (st::rest) (tX X.K G E H0 zE (.seq s r)):=PSs.imp (j30 h1 h2) λD σ H q=>by
 obtain⟨zA,ow,ρ,z,rr,rw,st,e,po⟩:=q;have e0:M.bind (ex G.F zE.isNone s ρ) (λo=>match o with | .nx ρ=>ex G.F zE.isNone r ρ | .rt s=>M.ret (.rt s)) z=some rr:=e
 rcases M.bind_some e0 with ⟨o,z1,e1,e2⟩ | ⟨c,z1,e1,e2⟩
 ·refine⟨zA,ow,ρ,z,_,rw,st,e1,?_⟩;cases o with
  |nx ρ1=>exact λzA' ow' σ' H' rw' st' sm=>⟨zA',ow',ρ1,z1,rr,rw',st',e2,po.mono sm⟩|rt s=>cases e2;exact po
 ·subst e2;exact⟨zA,ow,ρ,z,_,rw,st,e1,po⟩
theorem R01{p:Pat}{e:Ex}{D:Ends}{σ:L2.St}{H:Hp}(q:tX X.K G E H0 zE (.set p e) D σ H):h02 (tI X.K G E e) (gP X.K p) D σ H:=by
 obtain⟨zA,ow,ρ,z,rr,rw,st,ee,po⟩:=q;refine k80 rw.S90 st ee (po.ers rw) λl z1 e1=>?_;obtain⟨s,hs,e2⟩:=M.a10 e1;refine⟨s,E40 hs,λv H1 x1 st1 rv=>?_⟩;obtain⟨ρ',hb,e3⟩:=M.a10 e2;cases e3;exact h31 rw x1 rv hb λow' σ' r' sm=>po zA ow' σ' H1 r' st1 sm
theorem I72{K:Â}{i:Nat}:gP K (.v i)=X60 i:=by unfold gP;rfl
theorem D72(x:XS lm X G E N sc cn){i:Nat}{e:Ex}{y:Str}{v:Ï}{px pos:Pos}(hi:N[i]?=some y)(hl:E80 sc y=true)(g:b20 X G E e v)
  (hc:∀ elt gs csc q,v=.ListComp elt gs csc q->∃ tg iter ifs,gs=[⟨tg,iter,ifs,0⟩]/\H60 X G E e elt tg iter ifs csc) (hno:∀ a b c d,v≠.SetComp a b c d)
  (hnd:∀ a b c d f,v≠.DictComp a b c d f) :
  PS X (.Assign [.Name y px] v pos) (tX X.K G E H0 zE (.set (.v i) e)):=by
 have L:=x.loc;refine PS.imp (t:=h02 (tI X.K G E e) (X60 i)) ?_ λD σ H q=>by rw[← I72 (K:=X.K)];exact R01 q
 have h1:X.N.Nodup:=by rw[x.hN];exact x.nd
 have h2:X.N[i]?=some y:=by rw[x.hN];exact hi
 by_cases hv:∃ elt gs csc q,v=.ListComp elt gs csc q
 ·obtain⟨elt,gs,csc,q,rfl⟩:=hv;obtain⟨b,hb⟩:=K91 (el:=elt) (gs:=gs) (sc:=csc) (p:=q) (px:=px) (t:=y) (n:=pos.line) (env:=X.env);cases b with
  |false=>exact z20 h1 h2 (L.lc y hl) g.pe hb (L.fn y hl)
  |true =>
   obtain⟨tg,iter,ifs,rfl,own,capt,wi,gg,tt,te,k1,k2,k3,k4,k5,k6,k7⟩:=hc elt gs csc q rfl;refine PS.imp (U51 h1 h2 (L.lc y hl) hb x.calm k1 k2 k3 k4 k5 k6 (L.fn y hl)) λD σ H q=>k7 _ _ _ q
 ·exact z20 h1 h2 (L.lc y hl) g.pe (v60 (by cases v <;> first | rfl | exact absurd rfl (hno _ _ _ _) | exact absurd rfl (hnd _ _ _ _ _) | exact absurd ⟨_,_,_,_,rfl⟩ hv) _) (L.fn y hl)
theorem x71(x:XS lm X G E N sc cn)(hp:h80 N (E80 sc) p tg=true)(g:b20 X G E e v)(ht:k90 tg=true)(hv:Ã8 [tg] v X.env=pure none) :
  PS X (.Assign [tg] v pos) (tX X.K G E H0 zE (.set p e)):=by
 refine PS.imp (O31 g.pe (n01 x.loc hp) ?_ hv ?_) λD σ H q=>R01 q
 ·exact T10 (by cases tg <;> first | rfl | (cases ht;done))
 ·cases tg <;> first | rfl | (cases ht;done)
theorem D82(x:XS lm X G E N sc cn){i j:Nat}{ea eb:Ex}{a b:Ï}{y w:Str}{px py pt pt2 pos:Pos}{k k2:Nat}(hi:N[i]?=some y)(hj:N[j]?=some w)(hyw:(y == w)=false)(hy:sc.names.lookup y=some .local)(hw':sc.names.lookup w=some .local)
  (g:Good X G E (.cons ea (.cons eb .nil)) [a,b]) (hs:Ã8 [.Tuple [.Name y px,.Name w py] k pt] (.Tuple [a,b] k2 pt2) X.env=pure (some [y,w])) :
  PS X (.Assign [.Tuple [.Name y px,.Name w py] k pt] (.Tuple [a,b] k2 pt2) pos) (tX X.K G E H0 zE (.set (.tup (.cons (.v i) (.cons (.v j) .nil))) (.tup (.cons ea (.cons eb .nil))))):=by
 have hij:i≠j:=λh=>by
  subst h;rw[hi] at hj;cases hj;rw[beq_self_eq_true] at hyw;cases hyw
 refine PS.imp (h32 x.calm (by rw[x.hN];exact x.nd) (by rw[x.hN];exact hi) (by rw[x.hN];exact hj) hij (by rw[x.sco];exact hy) (by rw[x.sco];exact hw') (g.args rfl).1 hs rfl) λD σ H q=>?_
 obtain⟨zA,ow,ρ,z,rr,rw,st,ee,po⟩:=q;have e0:M.bind (M.bind (ev G.F (.cons ea (.cons eb .nil)) ρ) λl=>M.bind (M.of (plA l)) λds=>if ds.length<=most then M.ret [S.d (.tup ds)] else M.no) (λl=>M.bind (M.of (one l)) λs=>M.bind (M.of (D80 (.tup (.cons (.v i) (.cons (.v j) .nil))) s (i50 s ρ))) λρ=>M.ret (O.nx ρ)) z=some rr:=ee;rcases M.bind_some e0 with ⟨l0,z0,e1,e2⟩ | ⟨c,z1,e1,e2⟩
 ·rcases M.bind_some e1 with ⟨l,z1,e3,e4⟩ | ⟨c,z1,e3,e4⟩
  ·obtain⟨ds,hds,e5⟩:=M.a10 e4;split at e5
   ·cases e5;obtain⟨s,hs',e6⟩:=M.a10 e2;cases hs';obtain⟨ρ',hb,e7⟩:=M.a10 e6;cases e7;refine⟨zA,ρ,z,_,rw.S90,st,e3,λvs H1 x1 st1 rvs=>?_⟩;have hd:=L90 rvs hds;obtain⟨owk,r1,s1,b1⟩:=x51 rw (.d (.tup ds));have hb':bindL (.cons (.v i) (.cons (.v j) .nil)) ds (i50 (.d (.tup ds)) ρ)=some ρ':=by
     have:e70 (.tup (.cons (.v i) (.cons (.v j) .nil))) (.tup ds) (i50 (.d (.tup ds)) ρ)=some ρ':=hb;unfold e70 at this;exact this
    have r2:=r1.mono x1;have hd2:HdA X.K (hw owk (hz zA H1)) ds vs:=by
     rcases b1 with b1 | b1
     ·exact C10 r2.a12 (by simpa [R60,bare] using b1) hd
     ·have:owk=λ_=>none:=funext b1;subst this;rw[x60];exact hd
    have:=x41 hb' (R:=D.nx) r2 hd2 λow' σ' r' sm=>po zA ow' σ' H1 r' st1 (a20.trans s1 (a20.trans (d30 x1) sm));unfold gL at this;obtain⟨v,vr,rfl,this⟩:=this;unfold gP gL at this;obtain⟨u,ur,rfl,this⟩:=this;unfold gP gL at this;obtain⟨rfl,this⟩:=this;exact⟨v,u,rfl,this⟩
   ·cases e5
  ·cases e4
 ·subst e2;rcases M.bind_some e1 with ⟨l,z2,e3,e4⟩ | ⟨c,z2,e3,e4⟩
  ·obtain⟨ds,hds,e5⟩:=M.a10 e4;split at e5 <;> cases e5
  ·cases e4;exact⟨zA,ρ,z,_,rw.S90,st,e3,po.er_ rw⟩
theorem R11{s t:S}(h:noS s=some t):s=t/\t≠.z:=by
 cases s with
 |z=>cases h
 |fn _=>cases h
 |d _=>cases h;exact⟨rfl,λh=>nomatch h⟩
 |fr _=>cases h;exact⟨rfl,λh=>nomatch h⟩
theorem q32(x:XS lm X G E N sc cn){i:Nat}{n:Str}{p pos:Pos}(h1:N[i]?=some n)(h2:c40 n=true):PS X (.Return (some (.Name n p)) pos) (tX X.K G E H0 zE (.ret (.var i))):=by
 unfold c40 at h2;simp only[Á,ð] at h2;refine PS.imp (d91 (o00 (i:=i) (by rw[x.hN];exact h1) (x.vis n (ä h1)) h2.1 h2.2)) λD σ H q=>?_
 obtain⟨zA,ow,ρ,z,rr,rw,st,ee,po⟩:=q;have e0:(match ρ[i]? with | some (some s)=>M.bind (M.of (noS s)) λs=>M.ret (O.rt s) | _=>M.no) z=some rr:=ee
 cases hs:ρ[i]? with
 |none=>rw[hs] at e0;cases e0
 |some o =>
  cases o with
  |none=>rw[hs] at e0;cases e0
  |some s =>
   rw[hs] at e0;obtain⟨t,ht,e1⟩:=M.a10 e0;cases e1;obtain⟨rfl,nz⟩:=R11 ht;obtain⟨v,k1,k2⟩:=rw.P52 nz hs;exact⟨v,k1,po v H nz rw.ext (f12 rw.zok st) k2⟩
theorem D92(hv:∀ i,e≠.var i)(g:b20 X G E e v):PS X (.Return (some v) pos) (tX X.K G E H0 zE (.ret e)):=by
 refine PS.imp (d91 g.pe) λD σ H q=>?_;obtain⟨zA,ow,ρ,z,rr,rw,st,ee,po⟩:=q;have e0:M.bind (ev G.F e ρ) (λl=>M.bind (M.of ((one l).bind noS)) λs=>M.ret (O.rt s)) z=some rr:=by
  cases e <;> first | exact ee | exact absurd rfl (hv _)
 refine k80 rw.S90 st e0 (po.ers rw) λl z1 e1=>?_;obtain⟨t,ht,e2⟩:=M.a10 e1;cases e2;obtain⟨s,hs,hn⟩:=Ì.mp ht;obtain⟨rfl,nz⟩:=R11 hn;exact⟨s,E40 hs,λv H1 x1 st1 rv=>po v H1 nz (x31 rw.ext rw.zok x1) (f12 rw.zok st1) (rw.out nz x1 rv)⟩
theorem P82(g:b20 X G E c ce)(hn:∀ t a b p,ce≠.IfExp t a b p)(ha:PSs X a (tX X.K G E H0 zE t))(hb:PSs X b (tX X.K G E H0 zE u)) :
  PS X (.If ce a b pos) (tX X.K G E H0 zE (.iff c t u)):=by
 refine PS.imp (g52 (g.pt hn) ha hb) λD σ H q=>?_;obtain⟨zA,ow,ρ,z,rr,rw,st,ee,po⟩:=q;refine S40 rw.S90 st ee (po.ers rw) λb z1 e1 H1 x1 st1=>?_;have r1:=rw.mono x1;have sm:a20 (hw ow (hz zA H)) (hw ow (hz zA H1)):=d30 x1;cases b with
 |true=>exact⟨zA,ow,ρ,z1,rr,r1,st1,e1,po.mono sm⟩|false=>exact⟨zA,ow,ρ,z1,rr,r1,st1,e1,po.mono sm⟩
theorem E02(g:b20 X G E e v)(h:T00 v=true):PS X (.Expr v pos) (tX X.K G E H0 zE (.exp e)):=by
 refine PS.imp (X50 g.pe (v60 h none)) λD σ H q=>?_;obtain⟨zA,ow,ρ,z,rr,rw,st,ee,po⟩:=q;have e0:M.bind (ev G.F e ρ) (λl=>M.bind (M.of (one l)) λ_=>M.ret (O.nx ρ)) z=some rr:=ee;refine k80 rw.S90 st e0 (po.ers rw) λl z1 e1=>?_;obtain⟨s,hs,e2⟩:=M.a10 e1;cases e2;exact⟨s,E40 hs,λv H1 x1 st1 rv=>po zA ow σ H1 (rw.mono x1) st1 (d30 x1)⟩
def u92:Bi->Í0->Bool
 |.mul,.Mult=>true|.add,.Add=>true|_,_=>false
theorem q42(h:u92 o op=true):PIp X op λx y H Q=>∃ i j k,x=.int i/\y=.int j/\B20 o (.int i) (.int j)=some (.d (.int k))/\Q (.int k) H:=by
 intro pins s σ H x y v u Q I r1 r2 q;obtain⟨i,j,k,rfl,rfl,e,q⟩:=q;obtain⟨t,rfl⟩:=r1;obtain⟨t',rfl⟩:=r2;cases o <;> cases op <;> first | (cases h;done) | skip
 ·cases e;exact iadd_int ⟨.int _,H,I.tok _,⟨_,rfl⟩,q⟩
 ·obtain⟨hl,e⟩:=e60 e;cases e;exact imul_int ⟨.int _,H,I.tok _,⟨_,rfl⟩,q⟩ (P51 hl.1 hl.2)
theorem a52{o:Bi}{op:Í0}(h:u92 o op=true){i j:Int}{s:S}(e:B20 o (.int i) (.int j)=some s):∃ k,s=.d (.int k):=by
 cases o <;> cases op <;> first | (cases h;done) | skip
 ·cases e;exact⟨_,rfl⟩
 ·obtain⟨_,e⟩:=e60 e;cases e;exact⟨_,rfl⟩
theorem q52(h:asI d=some i):d=.int i:=by cases d <;> first | (cases h;rfl) | (cases h;done)
theorem E12(x:XS lm X G E N sc cn){i:Nat}{o:Bi}{e:Ex}{y:Str}{v:Ï}{op:Í0}{px pos:Pos}(hi:N[i]?=some y)(hl:E80 sc y=true)(ho:u92 o op=true)(g:b20 X G E e v):PS X (.AugAssign (.Name y px) op v pos) (tX X.K G E H0 zE (.aug o i e)):=by
 have L:=x.loc;refine PS.imp (h42 (i:=i) (by rw[x.hN];exact x.nd) (by rw[x.hN];exact hi) (L.lc y hl) g.pe (q42 ho) (L.fn y hl)) λD σ H q=>?_
 obtain⟨zA,ow,ρ,z,rr,rw,st,ee,po⟩:=q;obtain⟨yd,hy,e1⟩:=M.a10 ee;obtain⟨s0,hs0,hy⟩:=Ì.mp hy;have hr:ρ[i]?=some (some s0):=by
  cases h:ρ[i]? with
  |none=>rw[h] at hs0;cases hs0
  |some w=>rw[h] at hs0;cases hs0;rfl
 obtain⟨w,k1,k2⟩:=rw.wor i s0 hr;refine⟨w,k1,?_⟩;refine k80 rw.S90 st e1 (po.ers rw) λl z1 e2=>?_;obtain⟨xi,hx,e3⟩:=M.a10 e2;obtain⟨dx,hx1,hx2⟩:=Ì.mp hx;obtain⟨s1,rfl,hs1⟩:=g60 hx1;cases q52 hx2;refine⟨s1,rfl,λu H1 x1 st1 rv=>?_⟩;obtain⟨s2,hb,e4⟩:=M.a10 e3;obtain⟨yi,hyi,hb⟩:=Ì.mp hb;cases q52 hyi;obtain⟨k,rfl⟩:=a52 ho hb;have hw:w=.int yi:=by
  cases s0 with
  |d x=>cases hy;exact(show Hd X.K (hw ow (hz zA H)) (.int yi) w from k2.2).i90
  |_=>cases hy
 refine⟨yi,xi,k,hw,(show Hd X.K (hz zA H1) (.int xi) u from rv.pl.d_ hs1).i90,hb,?_⟩;obtain⟨ρ',hp,e5⟩:=M.a10 e4;cases e5;have:=h31 (R:=λσ' H'=>D.nx σ' H') rw x1 h30 hp λow' σ' r' sm=>po zA ow' σ' H1 r' st1 sm;rw[I72] at this;exact this
theorem x_raise(x:XS lm X G E N sc cn){c:Nat}{n:Str}{y:Str}{k:Nat}{p1 p2 p3 p4:Pos}(hc:cn[c]?=some n)(hg:glob sc n=true):PS X (.Raise (some (.Call (.Name n p1) [.Constant (.str y) k p2] [] p3)) none p4) (tX X.K G E H0 zE (.rais c)):=by
 obtain⟨k1,k2,_⟩:=c90 hg;obtain⟨m1,m2⟩:=x.cls c n hc;refine PS.imp (H61 x.can x.calm (x.glb n k1) m1 m2 (d40 O11 r70) k2 rfl rfl) λD σ H q=>?_;obtain⟨zA,ow,ρ,z,rr,rw,st,ee,po⟩:=q;cases ee;exact⟨by show 1<=sizeLine;decide,λe hn=>po e H rw.ext (f12 rw.zok st) hn⟩
end
section
variable {K:Â}{H0 H H':Hp}{zE zA:Option Æ}{ow:Nat->Option Æ}{ρ:Env}{σ:L2.St}
theorem g70(e:ow0 ow i j=some a):j≠i/\ow j=some a:=by
 unfold ow0 at e;split at e
 ·cases e
 ·rename_i n;exact⟨n,e⟩
theorem v70:ow0 ow i i=none:=if_pos rfl
theorem h41(h:j≠i):ow0 ow i j=ow j:=if_neg h
theorem L01{ρ:Env}{j:Nat}{s:S}(h:(R50 ρ)[j]?=some (some s)):ρ[j]?=some (some s)/\s≠.z:=by
 unfold R50 at h;rw[Ø] at h;obtain⟨o,e1,e2⟩:=Í.mp h;cases o with
 |none=>cases e2
 |some t =>
  cases t with
  |z=>cases e2
  |d x=>cases e2;exact⟨e1,λh=>nomatch h⟩
  |fr x=>cases e2;exact⟨e1,λh=>nomatch h⟩
  |fn x=>cases e2;exact⟨e1,λh=>nomatch h⟩
theorem a62{j:Nat}(h:ρ[j]?=some (some (.fr xs))):(R50 ρ)[j]?=some (some (.fr xs)):=by
 unfold R50;rw[Ø,h];rfl
theorem RW.P92(r:RW K H0 none zA ow H ρ σ){i:Nat}(x:Ext zA H H')(hn:H a=none)(za:zA≠some a)(hl:H' a=some (.lst ys)) :
  RW K H0 none (some a) (ow0 ow i) H' ((R50 ρ).set i (some .z)) (σ.set i (some (.ref a)))/\a20 (hw ow (hz zA H)) (hw (ow0 ow i) (hz (some a) H')):=by
 have r':=r.mono x;have old:∀ j b,ow j=some b->b≠a:=λj b e q=>by
  obtain⟨zs,h1⟩:=r.lst j b e;rw[q,hn] at h1;cases h1
 have sm:a20 (hw ow (hz zA H)) (hw (ow0 ow i) (hz (some a) H')):=λb o e=>by
  obtain⟨e1,e2⟩:=E60 e;have hb:b≠a:=λq=>by
   have e3:H b=some o:=(o20 e1).1;rw[q,hn] at e3;cases e3
  exact h40 (d10 (o20 (x b o e1)).1 (λq=>by cases q;exact hb rfl) (s20 e1)) λj q=>e2 j (g70 q).2
 have dl:(R50 ρ).length=ρ.length:=by unfold R50;rw[È]
 refine⟨⟨by rw[Á0,Á0,dl];exact r.len,λj k b h1 h2=>r.inj j k b (g70 h1).2 (g70 h2).2,λj b h1 q=>?_,λj b h1=>?_,λj s e=>?_,r'.ext,.inr ⟨rfl,λb q=>?_⟩,λj b h1=>r.new j b (g70 h1).2⟩,sm⟩
 ·cases q;exact old j _ (g70 h1).2 rfl
 ·obtain⟨n,h2⟩:=g70 h1;obtain⟨xs,h3⟩:=r.own j b h2;exact⟨xs,by rw[ã (Â2 n)];exact a62 h3⟩
 ·rcases getElem?_set' e with ⟨rfl,e1,hlt⟩ | ⟨n,e1⟩
  ·cases e1;exact⟨.ref a,ë (by rw[← r.len,← dl];exact hlt),v70,a,rfl,rfl⟩
  ·obtain⟨e1,nz⟩:=L01 e1;obtain⟨w,h1,h2⟩:=r.wor j s e1;refine⟨w,by rw[ã (Â2 n)];exact h1,?_⟩
   cases s with
   |d y=>exact⟨by rw[h41 n];exact h2.1,h2.2.same sm⟩|z=>exact absurd rfl nz|fn l=>exact⟨by rw[h41 n];exact h2.1,h2.2⟩
   |fr xs =>
    obtain⟨b,zs,k1,rfl,k3,k4⟩:=h2;exact⟨b,zs,by rw[h41 n];exact k1,rfl,x.at k3 (r.zne j b k1),k4.same sm⟩
 ·cases q;exact(r.young hn za).1
theorem RW.plain(r:RW K H0 zE zA ow H ρ σ)(i:Nat):RW K H0 zE zA (ow0 ow i) H (ρ.set i ((ρ[i]?.getD none).map plS)) σ:=by
 have sm:=q80 (H:=hz zA H) ow i;refine⟨by rw[Á0];exact r.len,λj k b h1 h2=>r.inj j k b (g70 h1).2 (g70 h2).2,λj b h1=>r.zne j b (g70 h1).2,λj b h1=>?_,λj s e=>?_,r.ext,r.zok,λj b h1=>r.new j b (g70 h1).2⟩
 ·obtain⟨n,h2⟩:=g70 h1;obtain⟨xs,h3⟩:=r.own j b h2;exact⟨xs,by rw[ã (Â2 n)];exact h3⟩
 ·rcases getElem?_set' e with ⟨rfl,e1,hlt⟩ | ⟨n,e1⟩
  ·cases hs:ρ[j]? with
   |none=>rw[hs] at e1;cases e1
   |some o =>
    rw[hs] at e1;cases o with
    |none=>cases e1
    |some s0 =>
     cases e1;obtain⟨w,h1,h2⟩:=r.wor j s0 hs;refine⟨w,h1,?_⟩;cases s0 with
     |d y=>exact⟨v70,h2.2.same sm⟩|z=>exact⟨v70,h2.2⟩|fn l=>exact⟨v70,h2.2⟩
     |fr xs =>
      obtain⟨b,zs,k1,rfl,k3,k4⟩:=h2;refine⟨v70,Hd.lst (h40 (d10 k3 (r.zne j b k1)) λk q=>?_) (k4.same sm)⟩;obtain⟨q1,q2⟩:=g70 q;exact q1 (r.inj k j b q2 k1)
  ·obtain⟨w,h1,h2⟩:=r.wor j s e1;exact⟨w,h1,h2.move (h41 n) sm λ_ _=>rfl⟩
end
theorem HdA.eraseIdx{K:Â}{H:Hp}:∀ {ds:List D}{vs:List V} (n:Nat),HdA K H ds vs->HdA K H (ds.eraseIdx n) (vs.eraseIdx n)
 |[],_,n,h=>by rw[h.f20];exact .nil
 |d::ds,_,0,h=>by
  obtain⟨x,r,rfl,h1,h2⟩:=h.c00;exact h2
 |d::ds,_,n + 1,h=>by
  obtain⟨x,r,rfl,h1,h2⟩:=h.c00;exact .cons h1 (HdA.eraseIdx n h2)
section
variable {lm:Bool}{X:Cx}{G:Gs}{E:XK}{N:List Str}{sc:ú}{cn:List Str}{H0:Hp}{zE:Option Æ}
theorem x81{α β:Type}{R:α->β->Prop}{a:α}{vs:List β}(h:Ä5 R [a] vs):∃ v,vs=[v]/\R a v:=by
 cases h with
 |cons h1 h2=>cases h2;exact⟨_,rfl,h1⟩
theorem d50.a40(st:d50 zA z H)(n:zA≠some a)(h:H a=some (.lst xs)):d50 zA z (upd H a o):=by
 refine⟨?_,λp hp=>Tab.upd (st.tab p hp) h⟩;have st:=st.zat;cases zA with
 |none=>cases z <;> exact st
 |some b =>
  cases z with
  |none=>exact st
  |some p =>
   have hb:b≠a:=λq=>n (by rw[q])
   exact(L2.a40 hb).trans st
theorem x91(h:ownAt ρ i=some xs):ρ[i]?=some (some (.fr xs)):=by
 unfold ownAt at h;split at h
 ·rename_i h1;cases h;exact h1
 ·cases h
theorem a72{K:Â}{zA:Option Æ}{H0 H:Hp}{s:S}{v:V}{x:D}(h:RvS K zA H0 H s v)(e:plD s=some x):Hd K (hz zA H) x v:=h.pl.d_ e
theorem E22(x:XS lm X G E N sc cn){i:Nat}{n:Str}{e:Ex}{v:Ï}{p apos cpos pos:Pos}(h1:N[i]?=some n)(h2:c40 n=true)(ns:noStar v=true)(g:b20 X G E e v)(hl:(apos.endLine == cpos.line)=true) :
  PS X (.Expr (.Call (.Attribute (.Name n p) "append" apos) [v] [] cpos) pos) (tX X.K G E H0 zE (.app i e)):=by
 unfold c40 at h2;simp only[Á,ð] at h2;have ga:Good X G E (.cons e .nil) [v]:=⟨v,[],rfl,ns,g,rfl,rfl⟩;have hs:=c20 ns [] X.env;refine PS.imp (X50 (U11 Ï2 Ú5 Ú4 Q40 (o00 (i:=i) (by rw[x.hN];exact h1) (x.vis n (ä h1)) h2.1 h2.2) (ga.args rfl).1 rfl (by rw[hs];rfl) hl hs rfl) (v60 rfl none)) λD σ H q=>?_
 obtain⟨zA,ow,ρ,z,rr,rw,st,ee,po⟩:=q;obtain⟨xs,hx,e1⟩:=M.a10 ee;have ho:=x91 hx;obtain⟨w,k1,a,ys,k2,rfl,k3,k4⟩:=rw.wor i _ ho;refine⟨_,k1,.inl ⟨rfl,ys,SqL.of k3⟩,?_⟩;have e2:M.bind (ev G.F (.cons e .nil) ρ) (λm=>M.bind (M.of (pl m)) λx=>if bare x=true/\xs.length < most then M.ret (O.nx (ρ.set i (some (.fr (xs++[x]))))) else M.no) z=some rr∨∃ c z1,ev G.F e ρ z=some (.er c z1)/\rr=.er c z1:=by
  rcases M.bind_some e1 with ⟨l,z1,e3,e4⟩ | ⟨c,z1,e3,e4⟩
  ·obtain⟨y,hy,e5⟩:=M.a10 e4;obtain⟨s,rfl,hs⟩:=g60 hy;refine .inl ?_;show M.bind (M.bind (ev G.F e ρ) λx=>M.bind (M.of (one x)) λs=>M.bind (ev G.F .nil ρ) λy=>M.ret (s::y)) _ z=some rr;simp only[M.bind,e3,M.of,one,M.ret,ev,hy];exact e5
  ·exact .inr ⟨c,z1,e3,e4⟩
 rcases e2 with e2 | ⟨c,z1,e3,rfl⟩
 ·refine m81 rw.S90 st e2 (po.ers rw) λl z1 e3 vs H1 x1 st1 rvs=>?_;obtain⟨y,hy,e5⟩:=M.a10 e3;obtain⟨s,rfl,hs⟩:=g60 hy;split at e5
  ·rename_i hb;cases e5;obtain⟨u,rfl,ru⟩:=x81 rvs;have r1:=rw.mono x1;have k3':=x1.at k3 (rw.zne i a k2);have k4':HdA X.K (hw ow (hz zA H1)) xs ys:=k4.same (d30 x1);have hd:=M40 r1.a12 hb.1 (a72 ru hs);refine⟨a,ys,u,rfl,rfl,k3',Ù (by rw[k4.length];exact hb.2) (e80 (Ë _)),?_⟩
   refine po zA ow σ _ (r1.upd k2 (k4'.append (.cons hd .nil))) ?_ (a20.trans (d30 x1) (a71 k2));exact st1.a40 (rw.zne i a k2) k3'
  ·cases e5
 ·refine⟨zA,ρ,z,.er c z1,rw.S90,st,?_,po.er_ rw⟩;show M.bind (ev G.F e ρ) _ z=_;simp only[M.bind,e3]
theorem q62(x:XS lm X G E N sc cn){i f:Nat}{as:Ex}{y:Str}{v:Ï}{px pos:Pos}(hi:N[i]?=some y)(hl:E80 sc y=true)(g:b20 X G E (.call f as) v)(hv:T00 v=true) :
  PS X (.Assign [.Name y px] v pos) (tX X.K G E H0 zE (.newz i f as)):=by
 have L:=x.loc;refine PS.imp (z20 (i:=i) (by rw[x.hN];exact x.nd) (by rw[x.hN];exact hi) (L.lc y hl) g.pe (v60 hv _) (L.fn y hl)) λD σ H q=>?_
 obtain⟨zA,ow,ρ,z,rr,rw,st,ee,po⟩:=q;refine k80 rw.S90 st ee (po.ers rw) λl z1 e1=>?_;have e2:u21 zE.isNone ρ i l=some rr:=e1;unfold u21 at e2;split at e2
 ·split at e2
  ·rename_i m b hz';cases e2;have zn:zE=none:=by
    cases zE with
    |none=>rfl|some _=>cases hz'
   subst zn;refine⟨_,rfl,λu H1 x1 st1 rv=>?_⟩;obtain⟨a,ys,rfl,k1,k2,k3,k4⟩:=rv;obtain⟨v1,v2,rfl,h3,h4⟩:=k4.two;cases h3.i90;cases h4.bl_;obtain⟨r1,sm⟩:=rw.P92 (i:=i) x1 k1 k2 k3;exact po (some a) _ _ H1 r1 ⟨k3,st1.tab⟩ sm
  ·cases e2
 ·cases e2
theorem q72(x:XS lm X G E N sc cn){i:Nat}{n:Str}{e:Ex}{v:Ï}{c:Nat}{p q tp pos:Pos}(h1:N[i]?=some n)(h2:c40 n=true)(g:b20 X G E e v) :
  PS X (.Assign [.Subscript (.Name n p) (.Constant (.int 0) c q) tp] v pos) (tX X.K G E H0 zE (.zset i e)):=by
 unfold c40 at h2;simp only[Á,ð] at h2;refine PS.imp (O31 g.pe (g92 (o00 (i:=i) (by rw[x.hN];exact h1) (x.vis n (ä h1)) h2.1 h2.2) d71 set_list (by intro u;rfl)) (show Ó0 v (some (.Subscript (.Name n p) (.Constant (.int 0) c q) tp)) pos.line X.env=pure false from T10 rfl) (by cases v <;> rfl)) λD σ H q=>?_
 obtain⟨zA,ow,ρ,z,rr,rw,st,ee,po⟩:=q;refine k80 rw.S90 st ee (po.ers rw) λl z1 e1=>?_;obtain⟨y,hy,e2⟩:=M.a10 e1;obtain⟨dy,hy1,hy2⟩:=Ì.mp hy;obtain⟨s,rfl,hs⟩:=g60 hy1;refine⟨s,rfl,λu H1 x1 st1 rv=>?_⟩;have e3:u31 ρ y ρ[i]? z1=some rr:=e2;unfold u31 at e3;split at e3
 ·rename_i p' hsl;cases e3;have r1:=rw.mono x1;obtain⟨w,k1,k2,a,rfl,rfl⟩:=r1.wor i .z hsl;have hu:u=.int y:=by
   have:=a72 rv hs;cases dy <;> first | (cases hy2;exact this.i90) | (cases hy2;done)
  subst hu;have st':H1 a=some (.lst [.int p'.1,.bl p'.2]):=st1.zat;refine⟨_,k1,a,[.int p'.1,.bl p'.2],0,0,rfl,rfl,st',rfl,?_⟩;have x2:Ext (some a) H1 (upd H1 a (.lst [.int y,.bl p'.2])):=by
   refine⟨λb o h=>?_,λb ps h=>⟨ps,by rw[a40 (λz=>by rw[z,st'] at h;cases h)];exact h⟩⟩
   obtain⟨h3,h4⟩:=o20 h;exact d10 (by rw[a40 (λz=>h4 (by rw[z]))];exact h3) h4 (s20 h)
  exact po (some a) ow σ _ (r1.mono x2) ⟨a90,λp hp=>Tab.upd (st1.tab p hp) st'⟩ (a20.trans (d30 x1.same) (d30 x2.same))
 ·cases e3
theorem E32(x:XS lm X G E N sc cn)(g:b20 X G E c ce)(hn:∀ t a b p,ce≠.IfExp t a b p)(hb:PSs X body (tX X.K G E H0 zE b)):PS X (.While ce body [] pos) (tX X.K G E H0 zE (.whl c b)):=by
 refine PS.imp (D91 x.own (g.pt hn) hb) λD σ H q=>?_;obtain⟨zA,ow,ρ,z,rr,rw,st,ee,po⟩:=q;refine⟨λm σ H=>∃ zA ow ρ z r,RW X.K H0 zE zA ow H ρ σ/\d50 zA z H/\P41 (ev G.F c) (ex G.F zE.isNone b) m ρ z=some r/\o50 X.K G E H0 zE (hw ow (hz zA H)) D r,⟨e72,zA,ow,ρ,z,rr,rw,st,ee,po⟩,?_⟩;rintro m σ H ⟨zA,ow,ρ,z,rr,rw,st,ee,po⟩;cases m with
 |zero=>cases ee
 |succ m =>
  refine S40 rw.S90 st ee (po.ers rw) λk z1 e1 H1 x1 st1=>?_;have r1:=rw.mono x1;have sm:a20 (hw ow (hz zA H)) (hw ow (hz zA H1)):=d30 x1;cases k with
  |false =>
   cases e1;exact po zA ow σ H1 r1 st1 sm
  |true =>
   rw[if_pos rfl];have e2:M.bind (ex G.F zE.isNone b ρ) (λo=>match o with | .nx ρ=>P41 (ev G.F c) (ex G.F zE.isNone b) m ρ | .rt s=>M.ret (.rt s)) z1=some rr:=e1
   refine⟨λσ' H'=>∃ zA ow ρ z r,RW X.K H0 zE zA ow H' ρ σ'/\d50 zA z H'/\P41 (ev G.F c) (ex G.F zE.isNone b) m ρ z=some r/\o50 X.K G E H0 zE (hw ow (hz zA H')) D r,λσ' H' h=>⟨m,Ù2 m,h⟩,?_⟩;rcases M.bind_some e2 with ⟨o,z2,e3,e4⟩ | ⟨k,z2,e3,e4⟩
   ·refine⟨zA,ow,ρ,z1,_,r1,st1,e3,?_⟩;cases o with
    |nx ρ1=>exact λzA' ow' σ' H' rw' st' sm'=>⟨zA',ow',ρ1,z2,rr,rw',st',e4,po.mono (a20.trans sm sm')⟩|rt s=>cases e4;exact po
   ·subst e4;exact⟨zA,ow,ρ,z1,_,r1,st1,e3,po⟩
theorem a82{i j:Nat}{e:Ex}{D:Ends}{σ:L2.St}{H:Hp}{zA:Option Æ}{ow:Nat->Option Æ}{ρ:Env}{z:Z}{rr:R O}(rw:RW X.K H0 zE zA ow H ρ σ)(st:d50 zA z H)(ee:l42 G.F i j e ρ z=some rr)(po:o50 X.K G E H0 zE (hw ow (hz zA H)) D rr) :
  g42 (tBM X.K "list" q51 (e42 i) (i42 (tBM X.K "list" O71 (e42 j) (tA X.K G E (.cons e .nil))) H42)) D σ H:=by
 obtain⟨xs,hx,e1⟩:=M.a10 ee;obtain⟨ys,hy,e1⟩:=M.a10 e1;have ho:=x91 hx;have hp:=x91 hy;obtain⟨w,k1,a,us,k2,rfl,k3,k4⟩:=rw.wor i _ ho;obtain⟨w',m1,b,ws,m2,rfl,m3,m4⟩:=rw.wor j _ hp;refine⟨_,k1,.inl ⟨rfl,us,SqL.of k3⟩,⟨_,m1,.inl ⟨rfl,ws,SqL.of m3⟩,?_⟩⟩;rcases M.bind_some e1 with ⟨l,z1,e3,e4⟩ | ⟨c,z1,e3,e4⟩
 ·obtain⟨k,hk,e5⟩:=M.a10 e4;obtain⟨dk,hk1,hk2⟩:=Ì.mp hk;obtain⟨s,rfl,hs⟩:=g60 hk1;obtain⟨o,hv,e6⟩:=M.a10 e5;cases e6;refine⟨zA,ρ,z,.ok [s] z1,rw.S90,st,?_,λvs H1 x1 st1 rvs=>?_⟩
  ·show M.bind (ev G.F e ρ) _ z=_;simp only[M.bind,e3,M.of,one,M.ret,ev]
  obtain⟨u,rfl,ru⟩:=x81 rvs;have hu:u=.int k:=by
   have:=a72 ru hs;cases dk <;> first | (cases hk2;exact this.i90) | (cases hk2;done)
  subst hu;unfold u11 at hv;split at hv
  ·rename_i hb;have hkk:=D70.mp hb.2.2.1;obtain⟨y,hy1,hv⟩:=Ì.mp hv;split at hv
   ·rename_i hby;cases hv;have r1:=rw.mono x1;have m4':HdA X.K (hw ow (hz zA H1)) ys ws:=m4.same (d30 x1);have k4':HdA X.K (hw ow (hz zA H1)) xs us:=k4.same (d30 x1);obtain⟨yv,g1,g2⟩:=m4'.get hy1;have hlt:k.toNat < ws.length:=(Ú.mp g1).1;have hab:a≠b:=λq=>hb.1 (rw.inj i j a k2 (by rw[q];exact m2))
    refine⟨b,ws,k,k.toNat,yv,rfl,rfl,x1.at m3 (rw.zne j b m2),by omega,by omega,?_,g1,?_⟩
    ·have h0:(0:Int)<=k:=hb.2.1;exact Ü4 h0 ∅
    ·have r2:=r1.upd m2 (m4'.eraseIdx k.toNat);have sm2:=a71 (H:=H1) (zA:=zA) (o:=.lst (ws.eraseIdx k.toNat)) m2;refine⟨a,us,yv,rfl,rfl,?_,?_,?_⟩
     ·rw[a40 hab];exact x1.at k3 (rw.zne i a k2)
     ·exact Ù (by rw[k4.length];exact hb.2.2.2) (e80 (Ë _))
     ·exact po zA ow σ _ (r2.upd k2 ((k4'.same sm2).append (.cons (g2.same sm2) .nil))) ((st1.a40 (rw.zne j b m2) (x1.at m3 (rw.zne j b m2))).a40 (rw.zne i a k2) (by rw[a40 hab];exact x1.at k3 (rw.zne i a k2))) (a20.trans (d30 x1) (a20.trans sm2 (a71 k2)))
   ·cases hv
  ·cases hv
 ·subst e4;refine⟨zA,ρ,z,.er c z1,rw.S90,st,?_,po.er_ rw⟩;show M.bind (ev G.F e ρ) _ z=_;simp only[M.bind,e3]
theorem q82(x:XS lm X G E N sc cn){i j:Nat}{n m:Str}{e:Ex}{v:Ï}{p p' apos cpos apos' cpos' pos:Pos}(h1:N[i]?=some n)(h2:c40 n=true)(h3:N[j]?=some m)(h4:c40 m=true)(ns:noStar v=true)(g:b20 X G E e v)(hl:(apos.endLine == cpos.line)=true)(hl':(apos'.endLine == cpos'.line)=true) :
  PS X (.Expr (.Call (.Attribute (.Name n p) "append" apos) [.Call (.Attribute (.Name m p') "pop" apos') [v] [] cpos'] [] cpos) pos) (tX X.K G E H0 zE (.apop i j e)):=by
 unfold c40 at h2 h4;simp only[Á,ð] at h2 h4;have ga:Good X G E (.cons e .nil) [v]:=⟨v,[],rfl,ns,g,rfl,rfl⟩;have hs:=c20 ns [] X.env;refine PS.imp (X50 (U11 Ï2 Ú5 Ú4 Q40 (o00 (i:=i) (by rw[x.hN];exact h1) (x.vis n (ä h1)) h2.1 h2.2)
  (d40 (U11 Ï2 PySem.F.slot_list_pop PySem.F.type_list_pop F01 (o00 (i:=j) (by rw[x.hN];exact h3) (x.vis m (ä h3)) h4.1 h4.2) (ga.args rfl).1 rfl (by rw[hs];rfl) hl' hs rfl) r70) rfl rfl hl rfl rfl) (v60 rfl none)) λD σ H q=>?_
 obtain⟨zA,ow,ρ,z,rr,rw,st,ee,po⟩:=q;exact a82 rw st ee po
def E42(K:Â)(i:Nat):TI:=λσ H R=>∃ a,σ[i]?=some (some (.ref a))/\((∃ ys,SqT K H a ys)/\R (Itt K a) H∨(∃ ys,SqL K H a ys)/\R (Itl K a) H)
theorem q92(x:XI lm X G E N sc){tg:Ï}{i:Nat}{n:Str}{pos:Pos}(h1:N[i]?=some n)(h2:c40 n=true):PI X tg (.Name n pos) (E42 X.K i):=by
 unfold c40 at h2;simp only[Á,ð] at h2;have hv:PE X (.Name n pos) (e42 i):=o00 (i:=i) (by rw[x.hN];exact h1) (x.vis n (ä h1)) h2.1 h2.2
 intro pins s σ H R I q;obtain⟨a,k,q | q⟩:=q
 ·exact O41 hv pins s σ H R I ⟨_,k,a,rfl,q.1,q.2⟩
 ·exact I90 hv pins s σ H R I ⟨_,k,a,rfl,q.1,q.2⟩
def fBody(F:FT)(tp:Bool)(p:Pat)(b:Sm):D->Env->M O:=λx ρ=>M.bind (M.of (e70 p x ρ)) λρ=>ex F tp b ρ
theorem E90:∀ {l:List D}{d:D},j10 l=true->d∈l->bare d=true
 |x::r,d,h,hd=>by
  simp only[j10,Á] at h;rcases ô.mp hd with rfl | hd
  ·exact h.1
  ·exact E90 h.2 hd
theorem h51{p:Pat}{b:Sm}{J:L2.It}{xs:List D}{B:Hp}{D:Ends}{σ:L2.St}{H:Hp}{zA:Option Æ}{ow:Nat->Option Æ}{ρ:Env}{z:Z}{rr:R O}(IT:ItB X.K J xs B)
  (rw:RW X.K H0 zE zA ow H ρ σ) (st:d50 zA z H) (sm:a20 B (hw ow (hz zA H))) (ee:X40 (fBody G.F zE.isNone p b) xs ρ z=some rr) (po:o50 X.K G E H0 zE (hw ow (hz zA H)) D rr) :
  ∃ W:Nat->Nat->L2.St->Hp->Prop,(∃ m,W 0 m σ H)/\∀ i m σ H,W i m σ H ->
   (J.stop i H/\D.nx σ H)∨(J.go i H/\∃ Nn:L2.St->Hp->Prop,(∀ σ' H',Nn σ' H'->∃ m',m' < m/\W (i + 1) m' σ' H')/\∀ x H',J.yld i H x H'->gP X.K p x σ H' λσ2 H2=>tX X.K G E H0 zE b { D with nx:=Nn,ct:=Nn,bk:=D.nx } σ2 H2):=by
 refine⟨λi m σ H=>m=xs.length - i/\i<=xs.length/\∃ zA ow ρ z r,RW X.K H0 zE zA ow H ρ σ/\d50 zA z H/\a20 B (hw ow (hz zA H))/\X40 (fBody G.F zE.isNone p b) (xs.drop i) ρ z=some r/\o50 X.K G E H0 zE (hw ow (hz zA H)) D r,
  ⟨xs.length,by simp,Å8 _,zA,ow,ρ,z,rr,rw,st,sm,by simpa using ee,po⟩,?_⟩
 rintro i m σ H ⟨rfl,hi,zA,ow,ρ,z,rr,rw,st,sm,ee,po⟩;have sH:a20 B H:=a20.trans sm (a20.trans i70 (a30 zA H));by_cases hlt:i < xs.length
 ·refine .inr ⟨IT.go i H sH hlt,λσ' H'=>∃ zA ow ρ z r,RW X.K H0 zE zA ow H' ρ σ'/\d50 zA z H'/\a20 B (hw ow (hz zA H'))/\X40 (fBody G.F zE.isNone p b) (xs.drop (i + 1)) ρ z=some r/\o50 X.K G E H0 zE (hw ow (hz zA H')) D r,
   λσ' H' h=>⟨xs.length - (i + 1),by omega,rfl,hlt,h⟩,λx H' y=>?_⟩
  have hd0:xs[i]?=some xs[i]:=Ð hlt;obtain⟨s1,hd⟩:=IT.yld i H x H' zA z _ (a20.trans sm i70) st y hd0;rw[Ã5 hlt] at ee;have e0:M.bind (fBody G.F zE.isNone p b xs[i] ρ) (λo=>match o with | .nx ρ=>X40 (fBody G.F zE.isNone p b) (xs.drop (i + 1)) ρ | .rt s=>M.ret (.rt s)) z=some rr:=ee
  have r1:=rw.mono (Ext.of s1);have st1:=st.same s1;have sm1:a20 (hw ow (hz zA H)) (hw ow (hz zA H')):=d30 (i60 s1);have hd1:=hd (hw ow (hz zA H')) (a20.trans sm sm1) λ_ _ q=>x21 q r1.a12;have fin:∀ {ρ1:Env}{o:O}{z1:Z},e70 p xs[i] ρ=some ρ1->ex G.F zE.isNone b ρ1 z=some (.ok o z1)->(match o with | .nx ρ=>X40 (fBody G.F zE.isNone p b) (xs.drop (i + 1)) ρ | .rt s=>M.ret (.rt s)) z1=some rr->gP X.K p x σ H' λσ2 H2=>tX X.K G E H0 zE b { D with nx:=λσ' H'=>∃ zA ow ρ z r,RW X.K H0 zE zA ow H' ρ σ'/\d50 zA z H'/\a20 B (hw ow (hz zA H'))/\X40 (fBody G.F zE.isNone p b) (xs.drop (i + 1)) ρ z=some r/\o50 X.K G E H0 zE (hw ow (hz zA H')) D r,ct:=λσ' H'=>∃ zA ow ρ z r,RW X.K H0 zE zA ow H' ρ σ'/\d50 zA z H'/\a20 B (hw ow (hz zA H'))/\X40 (fBody G.F zE.isNone p b) (xs.drop (i + 1)) ρ z=some r/\o50 X.K G E H0 zE (hw ow (hz zA H')) D r,bk:=D.nx } σ2 H2:=λ{ρ1 o z1} hbp e1 e2=>by
   refine K81 hbp r1 hd1 λow' σ' r2 sm2=>⟨zA,ow',ρ1,z,_,r2,st1,e1,?_⟩;cases o with
   |nx ρ2=>exact λzA3 ow3 σ3 H3 r3 st3 sm3=>⟨zA3,ow3,ρ2,z1,rr,r3,st3,a20.trans sm (a20.trans sm1 (a20.trans sm2 sm3)),e2,po.mono (a20.trans sm1 (a20.trans sm2 sm3))⟩|rt s=>cases e2;exact po
  rcases M.bind_some e0 with ⟨o,z1,e1,e2⟩ | ⟨c,z1,e1,e2⟩
  ·obtain⟨ρ1,hbp,e3⟩:=M.a10 e1;exact fin hbp e3 e2
  ·subst e2;obtain⟨ρ1,hbp,e3⟩:=M.a10 e1;exact K81 hbp r1 hd1 λow' σ' r2 sm2=>⟨zA,ow',ρ1,z,_,r2,st1,e3,po⟩
 ·have e:i=xs.length:=by omega
  subst e;rw[drop_length] at ee;cases ee;exact .inl ⟨IT.stop H sH,po zA ow σ H rw st (a20.refl _)⟩
theorem E52(x:XS lm X G E N sc cn){i:Nat}{y n n':Str}{b:Sm}{body:List Ä4}{py p p' lp pos:Pos}(hi:N[i]?=some y)(hy:E80 sc y=true)(hg:glob sc n=true)(hg':glob sc n'=true)
  (hf:∃ (f:Nat) (ps:List Str),G.fns[f]?=some (n,ps)) (hf':∃ (f:Nat) (ps:List Str),G.fns[f]?=some (n',ps)) (hb:PSs X body (tX X.K G E H0 zE b)):PS X (.For (.Name y py) (.List [.Name n p,.Name n' p'] lp) body [] pos) (tX X.K G E H0 zE (.frF i n n' b)):=by
 obtain⟨k1,k2,_⟩:=c90 hg;obtain⟨k1',k2',_⟩:=c90 hg';obtain⟨f,ps,hf⟩:=hf;obtain⟨f',ps',hf'⟩:=hf';obtain⟨a,_,m1,_⟩:=x.gok f n ps hf;obtain⟨a',_,m1',_⟩:=x.gok f' n' ps' hf';have w:=x.fna f n ps hf a m1;have w':=x.fna f' n' ps' hf' a' m1';have hp:h80 N (E80 sc) (.v i) (.Name y py)=true:=by
  unfold h80;show(N[i]? == some y&&E80 sc y)=true;rw[hi,hy];simp
 have key:∀ (j:Nat) (m:Str),[n,n'][j]?=some m->∃ v,[V.ref a,V.ref a'][j]?=some v/\FnK X.K m v:=λj m e=>by
  cases j with
  |zero=>cases e;exact⟨_,rfl,a,rfl,w⟩
  |succ j =>
   cases j with
   |zero=>cases e;exact⟨_,rfl,a',rfl,w'⟩
   |succ j=>cases e
 refine PS.imp (p41 x.own x.calm (I90 (p81 (d40 (e00 (v:=.ref a) (x.glb n k1) m1 rfl k2) (d40 (e00 (v:=.ref a') (x.glb n' k1') m1' rfl k2') r70)))) (n01 x.loc hp) hb (λ_=>rfl)) λD σ H q=>?_;obtain⟨zA,ow,ρ,z,rr,rw,st,ee,po⟩:=q;refine⟨by show 2<=sizeLine;rw[Á4];decide,λl hl=>⟨l,rfl,⟨_,SqL.of a90⟩,?_⟩⟩
 have s0:a20 H (upd H l (.lst [.ref a,.ref a'])):=a20.new _ hl;have nl:∀ j,ow j≠some l:=λj e=>by
  obtain⟨ys,h⟩:=rw.lst j l e;rw[hl] at h;cases h
 refine E01 (xs:=[.ref a,.ref a']) (λj σ H=>∃ zA ow ρ z r,RW X.K H0 zE zA ow H ρ σ/\d50 zA z H/\hw ow (hz zA H) l=some (.lst [.ref a,.ref a'])/\X01 i (ex G.F zE.isNone b) ([n,n'].drop j) ρ z=some r/\o50 X.K G E H0 zE (hw ow (hz zA H)) D r)
  ⟨zA,ow,ρ,z,rr,rw.mono (Ext.of s0),st.same s0,h40 (d10 a90 (st.f41 hl)) nl,ee,po.mono (d30 (i60 s0))⟩ (λj σ H _ ⟨zA,ow,ρ,z,r,_,_,h,_⟩=>SqL.of (o20 (i70 _ _ h)).1) (λj v σ H e ⟨zA,ow,ρ,z,r,rw,st,h,ee,po⟩=>?_) λσ H ⟨zA,ow,ρ,z,r,rw,st,h,ee,po⟩=>?_
 ·have hj:j < [n,n'].length:=(Ú.mp e).1;obtain⟨v',q1,q2⟩:=key j _ (Ð hj);rw[q1] at e;cases e;rw[Ã5 hj] at ee;have ee:(if i < ρ.length then M.bind (ex G.F zE.isNone b (ρ.set i (some (.fn [n,n'][j])))) λo=>match o with | .nx ρ=>X01 i (ex G.F zE.isNone b) ([n,n'].drop (j + 1)) ρ | .rt s=>M.ret (.rt s) else M.no) z=some r:=ee
  by_cases hlt:i < ρ.length
  ·rw[if_pos hlt] at ee;unfold gP;have sm:=q80 (H:=hz zA H) ow i;have r2:=rw.D42 (i:=i) (t:=.fn [n,n'][j]) (v:=v) ⟨if_pos rfl,q2⟩;rcases M.bind_some ee with ⟨o,z1,e1,e2⟩ | ⟨c,z1,e1,e2⟩
   ·refine⟨zA,_,_,z,_,r2,st,e1,?_⟩;cases o with
    |nx ρ2=>exact λzA3 ow3 σ3 H3 r3 st3 sm3=>⟨zA3,ow3,ρ2,z1,r,r3,st3,sm3 _ _ (sm _ _ h),e2,po.mono (a20.trans sm sm3)⟩|rt s=>cases e2;exact po
   ·subst e2;exact⟨zA,_,_,z,_,r2,st,e1,po⟩
  ·rw[if_neg hlt] at ee;cases ee
 ·cases ee;exact po zA ow σ H rw st (a20.refl _)
theorem r02(x:XS lm X G E N sc cn){p:Pat}{i:Nat}{n:Str}{b:Sm}{tg:Ï}{body:List Ä4}{np pos:Pos}(hp:h80 N (E80 sc) p tg=true)(h1:N[i]?=some n)(h2:c40 n=true)(hb:PSs X body (tX X.K G E H0 zE b)) :
  PS X (.For tg (.Name n np) body [] pos) (tX X.K G E H0 zE (.fr p .seq (.cons (.var i) .nil) b)):=by
 refine PS.imp (p41 x.own x.calm (q92 x.toXI h1 h2) (n01 x.loc hp) hb (λ_=>rfl)) λD σ H q=>?_;obtain⟨zA,ow,ρ,z,rr,rw,st,ee,po⟩:=q;have e0:M.bind (M.bind (match ρ[i]? with | some (some s)=>M.ret [plS s] | _=>M.no) λx=>M.bind (M.of (one x)) λs=>M.bind (ev G.F .nil ρ) λy=>M.ret (s::y)) (λl=>M.bind (M.of ((plA l).bind (itD .seq))) λxs=>X40 (fBody G.F zE.isNone p b) xs (u01 .seq (.cons (.var i) .nil) l ρ)) z=some rr:=ee
 cases hs:ρ[i]? with
 |none=>rw[hs] at e0;cases e0
 |some o =>
  cases o with
  |none=>rw[hs] at e0;cases e0
  |some s =>
   rw[hs] at e0;have e1:M.bind (M.of ((plA [plS s]).bind (itD .seq))) (λxs=>X40 (fBody G.F zE.isNone p b) xs ((ρ.set i ((ρ[i]?.getD none).map plS)).map (G30 (R80 [plS s])))) z=some rr:=e0;obtain⟨xs,hx,e2⟩:=M.a10 e1;have r1:=rw.plain i;have sm:=q80 (H:=hz zA H) ow i;have hi:i < ρ.length:=(Ú.mp hs).1;have hsl:(ρ.set i ((ρ[i]?.getD none).map plS))[i]?=some (some (plS s)):=by rw[ë hi,hs];rfl
   obtain⟨w,k1,k2⟩:=r1.wor i _ hsl;obtain⟨ds,h3,h4⟩:=Ì.mp hx;obtain⟨d,rfl,h5⟩:=w21 h3;have hd:Hd X.K (hw (ow0 ow i) (hz zA H)) d w:=by
    cases s with
    |d y=>cases h5;exact k2.2
    |fr ys=>cases h5;exact k2.2
    |_=>cases h5
   obtain⟨ow',r2,sm2⟩:∃ ow',RW X.K H0 zE zA ow' H ((ρ.set i ((ρ[i]?.getD none).map plS)).map (G30 (R80 [plS s]))) σ/\a20 (hw (ow0 ow i) (hz zA H)) (hw ow' (hz zA H)):=by
    rw[R70];cases R80 [plS s] with
    |true=>exact⟨_,r1,a20.refl _⟩|false=>exact⟨_,r1.Z20,E70 _⟩
   cases d with
   |tup l =>
    cases h4;obtain⟨a,ys,rfl,m1,m2⟩:=hd.D90;exact⟨a,k1,.inl ⟨⟨ys,(a30 zA H).sqT (a20.sqT i70 m1)⟩,h51 (v91 m1 m2) r2 st sm2 e2 (po.mono (a20.trans sm sm2))⟩⟩
   |lst l =>
    cases h4;obtain⟨a,ys,rfl,m1,m2⟩:=hd.f21;exact⟨a,k1,.inr ⟨⟨ys,((m1.same i70).same (a30 zA H)).sq⟩,h51 (g51 m1 m2) r2 st sm2 e2 (po.mono (a20.trans sm sm2))⟩⟩
   |_=>cases h4
theorem E62(x:XS lm X G E N sc cn){p:Pat}{it:It}{src:Ex}{b:Sm}{tg iter:Ï}{body:List Ä4}{pos:Pos}(hp:h80 N (E80 sc) p tg=true)(hi:PI X tg iter (tIt X.K G E it src))(hns:B40 iter=true)(hv:W91 it src=none)(hb:PSs X body (tX X.K G E H0 zE b)) :
  PS X (.For tg iter body [] pos) (tX X.K G E H0 zE (.fr p it src b)):=by
 refine PS.imp (p41 x.own x.calm hi (n01 x.loc hp) hb (x01 hns X.env)) λD σ H q=>?_;obtain⟨zA,ow,ρ,z,rr,rw,st,ee,po⟩:=q;have e0:M.bind (ev G.F src ρ) (λl=>M.bind (M.of ((plA l).bind (itD it))) λxs=>X40 (fBody G.F zE.isNone p b) xs ((R90 it src l ρ).map (G30 (R80 l)))) z=some rr:=ee;rcases M.bind_some e0 with ⟨l,z1,e1,e2⟩ | ⟨c,z1,e1,e2⟩
 ·obtain⟨xs,hx,e3⟩:=M.a10 e2;refine⟨zA,ρ,z,_,rw.S90,st,e1,xs,hx,λJ H1 x1 st1 IT=>?_⟩;have r1:=rw.mono x1;have frz:X40 (fBody G.F zE.isNone p b) xs (Z20 ρ) z1=some rr->_:=λe3=>h51 (G:=G) (E:=E) (D:=D) (IT (λ_=>True) (hz zA H1) (a20.refl _) (λ_ _ q=>q) (λ_ _ _ q=>q) (λds hds d hd=>by cases d <;> first | trivial | exact λ_ _=>trivial) λ_ _ q _=>q) r1.Z20 st1 (by rw[x60];exact a20.refl _) e3 (po.mono (a20.trans (d30 x1) (E70 ow)))
  rw[R70] at e3;have he:R90 it src l ρ=match m61 l with | true=>Z20 ρ | false=>ρ:=by
   unfold R90;rw[hv] <;> cases m61 l <;> rfl
  have tt:Z20 (Z20 ρ)=Z20 ρ:=by
   unfold Z20;rw[ù];refine Î6 λo _=>?_
   match o with
   |none=>rfl|some (.d _)=>rfl|some (.fr _)=>rfl|some .z=>rfl|some (.fn _)=>rfl
  cases hl:m61 l with
  |true =>
   rw[hl] at he;rw[he] at e3;dsimp only at e3;rw[tt,ite_self] at e3;exact frz e3
  |false =>
   rw[hl] at he;rw[he] at e3;dsimp only at e3;split at e3
   ·rename_i hbb;refine h51 (IT (λy=>bare y=true) (hw ow (hz zA H1)) i70 (λa ys q=>x21 q r1.a12) (λd v hd q=>M40 r1.a12 hd q) (λds hds d hd=>?_) λa ys q hor=>?_) r1 st1 (a20.refl _) e3 (po.mono (d30 x1))
    ·have h:=hbb;unfold R80 at h;rw[hds] at h;have:=ç.mp h d hd;cases d with
     |tup m=>exact λy hy=>E90 this hy|lst m=>exact λy hy=>E90 this hy|_=>trivial
    ·rcases hor with ⟨hn,hm1⟩ | hm
     ·refine q60.of (h40 (d10 hm1 (st.f41 hn)) λj w=>?_);obtain⟨zs,k⟩:=rw.lst j a w;rw[hn] at k;cases k
     ·rw[hl] at hm;cases hm
   ·exact frz e3
 ·subst e2;exact⟨zA,ρ,z,_,rw.S90,st,e1,po.er_ rw⟩
end
def isQ:Sm->Bool
 |.nil=>true|.seq _ _=>true|_=>false
def a92:Ï->Bool
 |.IfExp ..=>false|_=>true
def Q02:Ï->Bool
 |.SetComp ..=>false|.DictComp ..=>false|_=>true
def mtI(lm:Bool)(fns:List (Str × List Str))(nums:List (Str × Int))(it:It)(src:Ex)(sc:ú)(N:List Str)(tg iter:Ï):Bool:=match it with
 |.seq=>mt lm fns nums src sc N [iter]|.rng1=>opt (e92 iter) λr=>r.1.1 == ("range":Str)&&glob sc r.1.1&&mt lm fns nums src sc N [r.1.2.2.1]|.rng2=>opt (f02 iter) λr=>r.1.1 == ("range":Str)&&glob sc r.1.1&&mt lm fns nums src sc N [r.1.2.2.1,r.1.2.2.2.1]|.zip=>opt (f02 iter) λr=>r.1.1 == ("zip":Str)&&glob sc r.1.1&&k90 tg&&mt lm fns nums src sc N [r.1.2.2.1,r.1.2.2.2.1]|.enum=>opt (e92 iter) λr=>r.1.1 == ("enumerate":Str)&&glob sc r.1.1&&k90 tg&&mt lm fns nums src sc N [r.1.2.2.1]
def Q12:(p:Pat)->Option {q:Nat × Nat // p=.tup (.cons (.v q.1) (.cons (.v q.2) .nil))}
 |.tup (.cons (.v i) (.cons (.v j) .nil))=>some ⟨(i,j),rfl⟩|_=>none
def Q22:(e:Ex)->Option {q:Ex × Ex // e=.tup (.cons q.1 (.cons q.2 .nil))}
 |.tup (.cons a (.cons b .nil))=>some ⟨(a,b),rfl⟩|_=>none
def Q32:(e:Ï)->Option {q:Ï × Ï × Nat × Pos // e=.Tuple [q.1,q.2.1] q.2.2.1 q.2.2.2}
 |.Tuple [a,b] k p=>some ⟨(a,b,k,p),rfl⟩|_=>none
def Q42(sc:ú)(p:Pat)(e:Ex)(tg v:Ï):Bool:=opt (Q12 p) λ_=>opt (Q22 e) λ_=>opt (I62 tg) λt=>opt (Q32 v) λu =>
  !(t.1.1 == t.1.2.2.1)&&sc.names.lookup t.1.1 == some .local&&sc.names.lookup t.1.2.2.1 == some .local&&t.1.2.2.2.1.line == t.1.2.1.line&&noStar u.1.1&&noStar u.1.2.1&&!([u.1.1,u.1.2.1].all (Ø4 8))&&!([u.1.1,u.1.2.1].all (constantsAlone 8))
def isNm:Ï->Bool
 |.Name ..=>true|_=>false
def dkB(_:ú)(_ _:Ï):Bool:=false
def setB(sc:ú)(p:Pat)(e:Ex)(tg v:Ï):Bool :=
 if isNm tg then(Q02 v || dkB sc tg v) else if k90 tg then(if k90 v then(match v with | .Tuple vs _ _=>vs.all (Ø4 8) | _=>false) || (match tg with | .Tuple ts _ _=>ts.any (x61 λy=>sc.names.lookup y) | _=>false) || Q42 sc p e tg v else true) else false
def b02:(e:List Ä4)->Option {q:Ï × Ï × Pos // e=[.Assign [q.1] q.2.1 q.2.2]}
 |[.Assign [tg] v p]=>some ⟨(tg,v,p),rfl⟩|_=>none
def E72:(e:List Ä4)->Option {q:Option Ï × Pos // e=[.Return q.1 q.2]}
 |[.Return v p]=>some ⟨(v,p),rfl⟩|_=>none
def Q52:(e:List Ä4)->Option {q:Ï × List Ä4 × List Ä4 × Pos // e=[.If q.1 q.2.1 q.2.2.1 q.2.2.2]}
 |[.If c a b p]=>some ⟨(c,a,b,p),rfl⟩|_=>none
def r12:(e:List Ä4)->Option {q:Ï × Ï × List Ä4 × Pos // e=[.For q.1 q.2.1 q.2.2.1 [] q.2.2.2]}
 |[.For tg iter body [] p]=>some ⟨(tg,iter,body,p),rfl⟩|_=>none
def E82:(e:List Ä4)->Option {q:Ï × List Ä4 × Pos // e=[.While q.1 q.2.1 [] q.2.2]}
 |[.While c body [] p]=>some ⟨(c,body,p),rfl⟩|_=>none
def r22:(e:List Ä4)->Option {q:Ï × Pos // e=[.Raise (some q.1) none q.2]}
 |[.Raise (some x) none p]=>some ⟨(x,p),rfl⟩|_=>none
def b12:(e:List Ä4)->Option {q:Ï × Pos // e=[.Expr q.1 q.2]}
 |[.Expr v p]=>some ⟨(v,p),rfl⟩|_=>none
def E92:(e:Ï)->Option {q:Str × Pos × Str × Nat × Pos × Pos // e=.Call (.Name q.1 q.2.1) [.Constant (.str q.2.2.1) q.2.2.2.1 q.2.2.2.2.1] [] q.2.2.2.2.2}
 |.Call (.Name n p1) [.Constant (.str y) k p2] [] p3=>some ⟨(n,p1,y,k,p2,p3),rfl⟩|_=>none
def b22:(e:Ï)->Option {q:Str × Pos × Str × Pos × Ï × Pos // e=.Call (.Attribute (.Name q.1 q.2.1) q.2.2.1 q.2.2.2.1) [q.2.2.2.2.1] [] q.2.2.2.2.2}
 |.Call (.Attribute (.Name n p) a ap) [v] [] cp=>some ⟨(n,p,a,ap,v,cp),rfl⟩|_=>none
def Q62:(e:Ï)->Option {q:Str × Pos × Nat × Pos × Pos // e=.Subscript (.Name q.1 q.2.1) (.Constant (.int 0) q.2.2.1 q.2.2.2.1) q.2.2.2.2}
 |.Subscript (.Name n p) (.Constant (.int 0) c q1) tp=>some ⟨(n,p,c,q1,tp),rfl⟩|_=>none
def Q72:(e:Ï)->Option {q:Str × Pos × Ï × Pos // e=.Subscript (.Name q.1 q.2.1) q.2.2.1 q.2.2.2}
 |.Subscript (.Name n p) w tp=>some ⟨(n,p,w,tp),rfl⟩|_=>none
def Q82:(e:Ï)->Option {q:Str × Pos // e=.Name q.1 q.2}
 |.Name n p=>some ⟨(n,p),rfl⟩|_=>none
def F02:(e:List Ä4)->Option {q:Str × Pos × Í0 × Ï × Pos // e=[.AugAssign (.Name q.1 q.2.1) q.2.2.1 q.2.2.2.1 q.2.2.2.2]}
 |[.AugAssign (.Name n p) op v pos]=>some ⟨(n,p,op,v,pos),rfl⟩|_=>none
def L11:Ex->Bool
 |.con .non=>true|_=>false
def Q92:(e:Ï)->Option {q:Str × Pos × Str × Pos × Pos // e=.List [.Name q.1 q.2.1,.Name q.2.2.1 q.2.2.2.1] q.2.2.2.2}
 |.List [.Name n p,.Name m q] r=>some ⟨(n,p,m,q,r),rfl⟩|_=>none
def fnB(fns:List (Str × List Str))(n:Str):Bool:=fns.any λp=>p.1 == n
theorem R21{fns:List (Str × List Str)}{n:Str}(h:fnB fns n=true):∃ (f:Nat) (ps:List Str),fns[f]?=some (n,ps):=by
 obtain⟨⟨m,ps⟩,h1,h2⟩:=List.any_eq_true.mp h;obtain⟨f,hf⟩:=List.getElem?_of_mem h1;have e:m=n:=eq_of_beq h2;exact⟨f,ps,by rw[hf,e]⟩
def mtS(lm:Bool)(fns:List (Str × List Str))(nums:List (Str × Int))(cn:List Str)(sc:ú)(N:List Str):Sm->List Ä4->Bool
 |.nil,ss=>ss.isEmpty|.seq s r,ss=>opt ss.head? λst=>!isQ s&&isQ r&&mtS lm fns nums cn sc N s [st]&&mtS lm fns nums cn sc N r ss.tail|.set p e,ss=>opt (b02 ss) λq=>!isL e&&h80 N (E80 sc) p q.1.1&&mt lm fns nums e sc N [q.1.2.1]&&setB sc p e q.1.1 q.1.2.1
 |.ret e,ss=>opt (E72 ss) λq=>match q.1.1 with
  |some v=>!isL e&&mt lm fns nums e sc N [v]|none=>L11 e
 |.iff c t u,ss=>opt (Q52 ss) λq=>!isL c&&a92 q.1.1&&isQ t&&isQ u&&mt lm fns nums c sc N [q.1.1]&&mtS lm fns nums cn sc N t q.1.2.1&&mtS lm fns nums cn sc N u q.1.2.2.1|.fr p it src b,ss=>opt (r12 ss) λq=>h80 N (E80 sc) p q.1.1&&isL src&&B40 q.1.2.1&&isQ b&&mtI lm fns nums it src sc N q.1.1 q.1.2.1&&mtS lm fns nums cn sc N b q.1.2.2.1|.frF i n n' b,ss=>opt (r12 ss) λq=>opt (shN q.1.1) λy=>opt (Q92 q.1.2.1) λl=>N[i]? == some y.1.1&&E80 sc y.1.1&&l.1.1 == n&&l.1.2.2.1 == n'&&glob sc n&&glob sc n'&&fnB fns n&&fnB fns n'&&isQ b&&mtS lm fns nums cn sc N b q.1.2.2.1|.whl c b,ss=>opt (E82 ss) λq=>!isL c&&a92 q.1.1&&isQ b&&mt lm fns nums c sc N [q.1.1]&&mtS lm fns nums cn sc N b q.1.2.1|.rais c,ss=>opt (r22 ss) λq=>opt (E92 q.1.1) λr=>cn[c]? == some r.1.1&&glob sc r.1.1|.exp e,ss=>opt (b12 ss) λq=>T00 q.1.1&&!isL e&&mt lm fns nums e sc N [q.1.1]|.app i e,ss=>opt (b12 ss) λq=>opt (b22 q.1.1) λr=>r.1.2.2.1 == ("append":Str)&&N[i]? == some r.1.1&&c40 r.1.1&&noStar r.1.2.2.2.2.1&&!isL e&&r.1.2.2.2.1.endLine == r.1.2.2.2.2.2.line&&mt lm fns nums e sc N [r.1.2.2.2.2.1]|.newz i f as,ss=>opt (b02 ss) λq=>opt (Q82 q.1.1) λr=>N[i]? == some r.1.1&&E80 sc r.1.1&&T00 q.1.2.1&&mt lm fns nums (.call f as) sc N [q.1.2.1]|.zset i e,ss=>opt (b02 ss) λq=>opt (Q62 q.1.1) λr=>N[i]? == some r.1.1&&c40 r.1.1&&!isL e&&mt lm fns nums e sc N [q.1.2.1]|.apop i j e,ss=>opt (b12 ss) λq=>opt (b22 q.1.1) λr=>opt (b22 r.1.2.2.2.2.1) λt=>r.1.2.2.1 == ("append":Str)&&t.1.2.2.1 == ("pop":Str)&&N[i]? == some r.1.1&&c40 r.1.1&&N[j]? == some t.1.1&&c40 t.1.1&&noStar t.1.2.2.2.2.1&&!isL e&&r.1.2.2.2.1.endLine == r.1.2.2.2.2.2.line&&t.1.2.2.2.1.endLine == t.1.2.2.2.2.2.line&&mt lm fns nums e sc N [t.1.2.2.2.2.1]|.aug o i e,ss=>opt (F02 ss) λq=>N[i]? == some q.1.1&&E80 sc q.1.1&&u92 o q.1.2.2.1&&!isL e&&mt lm fns nums e sc N [q.1.2.2.2.1]
section
variable {lm:Bool}{X:Cx}{G:Gs}{E:XK}{N:List Str}{sc:ú}{cn:List Str}{H0:Hp}{zE:Option Æ}
theorem F12(x:XI lm X G E N sc){it:It}{src:Ex}{tg iter:Ï}(hL:isL src=true)(h:mtI lm G.fns G.nums it src sc N tg iter=true):PI X tg iter (tIt X.K G E it src):=by
 cases it with
 |seq =>
  obtain⟨a,rfl,ga⟩:=x11 hL (sound G src x h);exact Q81 ga
 |rng1 =>
  obtain⟨⟨⟨n,_,a,_⟩,rfl⟩,-,h⟩:=a50 h;simp only[Á,beq_iff_eq] at h;exact w31 x h.1.1 h.1.2 hL (sound G src x h.2)
 |rng2 =>
  obtain⟨⟨⟨n,_,a,b,_⟩,rfl⟩,-,h⟩:=a50 h;simp only[Á,beq_iff_eq] at h;exact w41 x h.1.1 h.1.2 hL (sound G src x h.2)
 |zip =>
  obtain⟨⟨⟨n,_,a,b,_⟩,rfl⟩,-,h⟩:=a50 h;simp only[Á,beq_iff_eq] at h;exact w71 x h.1.2 h.1.1.1 h.1.1.2 hL (sound G src x h.2)
 |enum =>
  obtain⟨⟨⟨n,_,a,_⟩,rfl⟩,-,h⟩:=a50 h;simp only[Á,beq_iff_eq] at h;exact g81 x h.1.2 h.1.1.1 h.1.1.2 hL (sound G src x h.2)
theorem h61(h:a92 e=true):∀ t a b p,e≠.IfExp t a b p:=by
 intro t a b p he;subst he;cases h
def GS(X:Cx)(G:Gs)(E:XK)(H0:Hp)(zE:Option Æ)(s:Sm)(ss:List Ä4):Prop:=(isQ s=true->PSs X ss (tX X.K G E H0 zE s))/\(isQ s=false->∃ st,ss=[st]/\PS X st (tX X.K G E H0 zE s))
theorem l00{s:Sm}{st:Ä4}(hq:isQ s=false)(h:PS X st (tX X.K G E H0 zE s)):GS X G E H0 zE s [st]:=⟨λk=>(by rw[hq] at k;cases k),λ_=>⟨st,rfl,h⟩⟩
theorem b32{x:XI lm X G E N sc}{e:Ex}{elt:Ï}{gs:List Comprehension}{csc:ú}{q:Pos}(h:mt lm G.fns G.nums e sc N [.ListComp elt gs csc q]=true)(hL:isL e=false):∃ tg iter ifs,gs=[⟨tg,iter,ifs,0⟩]/\H60 X G E e elt tg iter ifs csc:=by
 cases e with
 |comp own capt p it src cond el =>
  match gs,h with
  |[⟨tg,iter,ifs,0⟩],h=>exact⟨tg,iter,ifs,rfl,S80 (λx _=>sound G src x) (λx _=>sound G cond x) (λx _=>sound G el x) x h⟩
 |nil=>cases hL
 |cons _ _=>cases hL
 |bf f as=>cases f <;> cases h
 |_=>cases h
theorem b42(h:isNm e=true):∃ y p,e=.Name y p:=by
 cases e <;> first | exact⟨_,_,rfl⟩ | cases h
theorem v80(h:k90 e=true):∃ ts k p,e=.Tuple ts k p:=by
 cases e <;> first | exact⟨_,_,_,rfl⟩ | cases h
theorem F22(x:XS lm X G E N sc cn){p:Pat}{e:Ex}{tg v:Ï}{pos:Pos}(h1:(!isL e)=true)(h2:h80 N (E80 sc) p tg=true)(h3:mt lm G.fns G.nums e sc N [v]=true)(h4:setB sc p e tg v=true):PS X (.Assign [tg] v pos) (tX X.K G E H0 zE (.set p e)):=by
 have g:=b00 (b60 h1) (sound G e x.toXI h3);unfold setB at h4;split at h4
 ·rename_i hn;obtain⟨y,px,rfl⟩:=b42 hn;cases p with
  |v i =>
   unfold h80 at h2;rw[Á,beq_iff_eq] at h2;refine D72 x h2.1 h2.2 g (λelt gs csc q hv=>?_) (λa b c d hv=>?_) (λa b c d f hv=>?_)
   ·subst hv;exact b32 (x:=x.toXI) h3 (b60 h1)
   ·subst hv;cases h4
   ·subst hv;cases h4
  |tup _=>unfold h80 at h2;cases h2
  |nil=>unfold h80 at h2;cases h2
  |cons _ _=>unfold h80 at h2;cases h2
 ·split at h4
  ·rename_i ht;split at h4
   ·rename_i hv;rw[Å5,Å5] at h4;rcases h4 with (h4 | h4) | h4
    ·obtain⟨ts,k,tp,rfl⟩:=v80 ht;obtain⟨vs,k',vp,rfl⟩:=v80 hv;exact x71 x h2 g rfl (a32 h4)
    ·obtain⟨ts,k,tp,rfl⟩:=v80 ht;obtain⟨vs,k',vp,rfl⟩:=v80 hv;refine x71 x h2 g rfl (a42 ?_);have e:X.env.kindOf=λy=>sc.names.lookup y:=by funext y;unfold Env.kindOf;rw[x.sco]
     rw[e];exact h4
    ·clear g h1 ht hv;obtain⟨⟨⟨i,j⟩,rfl⟩,-,h4⟩:=a50 h4;obtain⟨⟨⟨ea,eb⟩,rfl⟩,-,h4⟩:=a50 h4;obtain⟨⟨⟨y,px,w,py,kt,tp⟩,rfl⟩,-,h4⟩:=a50 h4;obtain⟨⟨⟨a,b,kv,vp⟩,rfl⟩,-,h4⟩:=a50 h4;simp only[Á,ð,beq_iff_eq] at h4;obtain⟨⟨⟨⟨⟨⟨⟨k1,k2⟩,k3⟩,k4⟩,k5⟩,k6⟩,k7⟩,k8⟩:=h4;unfold h80 at h2;simp only[m91,h80,Á,beq_iff_eq] at h2;obtain⟨⟨_,h21,_⟩,⟨_,h22,_⟩,_⟩:=h2;have h3':(isL (.cons ea (.cons eb .nil))&&mt lm G.fns G.nums (.cons ea (.cons eb .nil)) sc N [a,b])=true:=h3;rw[Á] at h3';have ga:Good X G E (.cons ea (.cons eb .nil)) [a,b]:=sound G (.cons ea (.cons eb .nil)) x.toXI h3'.2;refine D82 x h21 h22 (by simpa using k1) k2 k3 ga (q22 x.bk ?_ ?_ (by simpa using k1) (by rw[k4];exact beq_self_eq_true _) k5 k6 k7 k8)
     ·unfold Env.kindOf;rw[x.sco];exact k2
     ·unfold Env.kindOf;rw[x.sco];exact k3
   ·rename_i hv;exact x71 x h2 g ht (a22 (by simpa using hv))
  ·cases h4
theorem y01(h:L11 e=true):e=.con .non:=by
 unfold L11 at h;split at h
 ·rfl
 ·cases h
theorem F32(x:XS lm X G E N sc cn)(h:(match o with | some v=>!isL e&&mt lm G.fns G.nums e sc N [v] | none=>L11 e)=true):PS X (.Return o pos) (tX X.K G E H0 zE (.ret e)):=by
 cases o with
 |some v =>
  have h:(!isL e&&mt lm G.fns G.nums e sc N [v])=true:=h;rw[Á] at h;by_cases hv:∃ i,e=.var i
  ·obtain⟨i,rfl⟩:=hv;have h2:=h.2;cases v with
   |Name n p =>
    have h2:(N[i]? == some n&&c40 n)=true:=h2;rw[Á,beq_iff_eq] at h2;exact q32 x h2.1 h2.2
   |_=>cases h2
  ·exact D92 (λi hi=>hv ⟨i,hi⟩) (b00 (b60 h.1) (sound G e x.toXI h.2))
 |none =>
  have he:=y01 h;subst he;refine PS.imp S81 λD σ H q=>?_;obtain⟨zA,ow,ρ,z,rr,rw,st,ee,po⟩:=q;cases ee;exact po .non H (λk=>nomatch k) rw.ext (f12 rw.zok st) (show Hd X.K (hz zE H) .non .non from Hd.non)
theorem R02(x:XS lm X G E N sc cn){p:Pat}{it:It}{src:Ex}{b:Sm}{tg iter:Ï}{body:List Ä4}{pos:Pos}(h1:h80 N (E80 sc) p tg=true)(h2:isL src=true)(h3:B40 iter=true)(h5:mtI lm G.fns G.nums it src sc N tg iter=true)(hb:PSs X body (tX X.K G E H0 zE b)) :
  PS X (.For tg iter body [] pos) (tX X.K G E H0 zE (.fr p it src b)):=by
 cases hv:W91 it src with
 |some q =>
  obtain⟨i,rfl,rfl⟩:=q;have h5':(noStar iter&&!isL (.var i)&&isL .nil&&mt lm G.fns G.nums (.var i) sc N [iter]&&mt lm G.fns G.nums .nil sc N [])=true:=h5;simp only[Á] at h5';have h7:=h5'.1.2;cases iter with
  |Name n np =>
   have h7:(N[i]? == some n&&c40 n)=true:=h7;rw[Á,beq_iff_eq] at h7;exact r02 x h1 h7.1 h7.2 hb
  |_=>cases h7
 |none=>exact E62 x h1 (F12 x.toXI h2 h5) h3 hv hb
theorem r32(x:XS lm X G E N sc cn):∀ (s:Sm) {ss:List Ä4},mtS lm G.fns G.nums cn sc N s ss=true->GS X G E H0 zE s ss:=by
 intro s
 induction s with
 |nil =>
  intro ss h;have:ss=[]:=Ð5.mp h;subst this;exact⟨λ_=>D52,λk=>by cases k⟩
 |seq s r ihs ihr =>
  intro ss h;obtain⟨st,h0,h⟩:=a50 h;cases ss with
  |nil=>cases h0
  |cons st' rest =>
   cases h0;simp only[Á,ð,List.tail_cons] at h;obtain⟨⟨⟨h1,h2⟩,h3⟩,h4⟩:=h;obtain⟨st',he,hs⟩:=(ihs h3).2 h1;cases he;exact⟨λ_=>D62 hs ((ihr h4).1 h2),λk=>by cases k⟩
 |set p e =>
  intro ss h;obtain⟨⟨q,rfl⟩,-,h⟩:=a50 h;simp only[Á] at h;exact l00 rfl (F22 x h.1.1.1 h.1.1.2 h.1.2 h.2)
 |ret e =>
  intro ss h;obtain⟨⟨q,rfl⟩,-,h⟩:=a50 h;exact l00 rfl (F32 x h)
 |iff c t u iht ihu =>
  intro ss h;obtain⟨⟨q,rfl⟩,-,h⟩:=a50 h;simp only[Á] at h;obtain⟨⟨⟨⟨⟨⟨h1,h2⟩,h3⟩,h4⟩,h5⟩,h6⟩,h7⟩:=h;exact l00 rfl (P82 (b00 (b60 h1) (sound G c x.toXI h5)) (h61 h2) ((iht h6).1 h3) ((ihu h7).1 h4))
 |fr p it src b ih =>
  intro ss h;obtain⟨⟨q,rfl⟩,-,h⟩:=a50 h;simp only[Á] at h;obtain⟨⟨⟨⟨⟨h1,h2⟩,h3⟩,h4⟩,h5⟩,h6⟩:=h;exact l00 rfl (R02 x h1 h2 h3 h5 ((ih h6).1 h4))
 |frF i n n' b ih =>
  intro ss h;obtain⟨⟨⟨tg,iter,body,pos⟩,rfl⟩,-,h⟩:=a50 h;dsimp only at h;obtain⟨⟨⟨y,py⟩,rfl⟩,-,h⟩:=a50 h;dsimp only at h;obtain⟨⟨⟨m,p,m',p',lp⟩,rfl⟩,-,h⟩:=a50 h;simp only[Á,beq_iff_eq] at h;obtain⟨⟨⟨⟨⟨⟨⟨⟨⟨h1,h2⟩,rfl⟩,rfl⟩,h5⟩,h6⟩,h7⟩,h8⟩,h9⟩,h10⟩:=h;exact l00 rfl (E52 x h1 h2 h5 h6 (R21 h7) (R21 h8) ((ih h10).1 h9))
 |whl c b ih =>
  intro ss h;obtain⟨⟨q,rfl⟩,-,h⟩:=a50 h;simp only[Á] at h;obtain⟨⟨⟨⟨h1,h2⟩,h3⟩,h4⟩,h5⟩:=h;exact l00 rfl (E32 x (b00 (b60 h1) (sound G c x.toXI h4)) (h61 h2) ((ih h5).1 h3))
 |rais c =>
  intro ss h;obtain⟨⟨⟨e,pos⟩,rfl⟩,-,h⟩:=a50 h;dsimp only at h;obtain⟨⟨⟨n,p1,y,k,p2,p3⟩,rfl⟩,-,h⟩:=a50 h;simp only[Á,beq_iff_eq] at h;exact l00 rfl (x_raise x h.1 h.2)
 |exp e =>
  intro ss h;obtain⟨⟨q,rfl⟩,-,h⟩:=a50 h;simp only[Á] at h;exact l00 rfl (E02 (b00 (b60 h.1.2) (sound G e x.toXI h.2)) h.1.1)
 |app i e =>
  intro ss h;obtain⟨⟨⟨v0,pos⟩,rfl⟩,-,h⟩:=a50 h;dsimp only at h;obtain⟨⟨⟨n,p1,a,apos,v,cpos⟩,rfl⟩,-,h⟩:=a50 h;simp only[Á,beq_iff_eq] at h;obtain⟨⟨⟨⟨⟨⟨h7,h8⟩,h2⟩,h3⟩,h4⟩,h5⟩,h6⟩:=h;subst h7;exact l00 rfl (E22 x h8 h2 h3 (b00 (b60 h4) (sound G e x.toXI h6)) (by rw[h5];exact beq_self_eq_true _))
 |newz i f as =>
  intro ss h;obtain⟨⟨⟨tg,v,pos⟩,rfl⟩,-,h⟩:=a50 h;dsimp only at h;obtain⟨⟨⟨y,p1⟩,rfl⟩,-,h⟩:=a50 h;simp only[Á,beq_iff_eq] at h;obtain⟨⟨⟨h1,h2⟩,h3⟩,h4⟩:=h;exact l00 rfl (q62 x h1 h2 (b00 rfl (sound G (.call f as) x.toXI h4)) h3)
 |zset i e =>
  intro ss h;obtain⟨⟨⟨tg,v,pos⟩,rfl⟩,-,h⟩:=a50 h;dsimp only at h;obtain⟨⟨⟨n,p1,c,p2,p3⟩,rfl⟩,-,h⟩:=a50 h;simp only[Á,beq_iff_eq] at h;exact l00 rfl (q72 x h.1.1.1 h.1.1.2 (b00 (b60 h.1.2) (sound G e x.toXI h.2)))
 |apop i j e =>
  intro ss h;obtain⟨⟨⟨v0,pos⟩,rfl⟩,-,h⟩:=a50 h;dsimp only at h;obtain⟨⟨⟨n,p1,a,apos,v1,cpos⟩,rfl⟩,-,h⟩:=a50 h;dsimp only at h;obtain⟨⟨⟨m,p2,b,apos',v,cpos'⟩,rfl⟩,-,h⟩:=a50 h;simp only[Á,beq_iff_eq] at h;obtain⟨⟨⟨⟨⟨⟨⟨⟨⟨⟨g1,g2⟩,g3⟩,g4⟩,g5⟩,g6⟩,g7⟩,g8⟩,g9⟩,g10⟩,g11⟩:=h;subst g1;subst g2;exact l00 rfl (q82 x g3 g4 g5 g6 g7 (b00 (b60 g8) (sound G e x.toXI g11)) (by rw[g9];exact beq_self_eq_true _) (by rw[g10];exact beq_self_eq_true _))
 |aug o i e =>
  intro ss h;obtain⟨⟨⟨y,p1,op,v,pos⟩,rfl⟩,-,h⟩:=a50 h;simp only[Á,beq_iff_eq] at h;exact l00 rfl (E12 x h.1.1.1.1 h.1.1.1.2 h.1.1.2 (b00 (b60 h.1.2) (sound G e x.toXI h.2)))
end
structure GX(P:Program)(w:World)(K:PySem.W.Frag)(mg:Str->Option Value)(base:Heap)(G:Gs)(cn:List Str):Prop where
 gok:∀ f nm ps,G.fns[f]?=some (nm,ps)->∃ fa fd,mg nm=some (.ref fa)/\PySem.W.keepIn K (.ref fa)=true/\Binds K fd ps []/\P40 P w K mg base (CX1 P w) G.lv fa fd ps (spF K G f ps.length)
 num:∀ p∈G.nums,∃ t,mg p.1=some (.int p.2 t)
 blt:∀ n∈Z01,mg n=none
 cls:∀ c x,cn[c]?=some x->mg x=some (.ref (G.cls c))/\PySem.W.excIn K (G.cls c) [.type "ValueError",.type "Exception",.type "BaseException",.type "object"] "ValueError.__new__"=true
 fna:∀ (f:Nat) (nm:Str) (ps:List Str),G.fns[f]?=some (nm,ps)->∀ a,mg nm=some (.ref a)->PySem.W.nsIn K mainGlobals nm=some (some (.ref a))
section
variable {P:Ü}{w:ì}{K:Â}{mg:Str->Option Ã}{base:æ}{G:Gs}{cn:List Str}
structure v02(P:Program)(w:World)(K:PySem.W.Frag)(mg:Str->Option Value)(base:Heap)(cls:Nat->Addr)(fR:Addr)(fdR:FuncData):Prop where
 bm:BMain mg base
 cls:∀ j,j < 12->R30 K mg (cls j) j
 m:mg "_law_refused"=some (.ref fR)
 kp:PySem.W.keepIn K (.ref fR)=true
 bd:Binds K fdR ["_law_call"] []
 fn:∀ k,m21 P w K mg base CX0 (k + 2) fR fdR ["_law_call"] (W71 P w K mg base (k + 1))
def v22(K:Â)(nm:Str)(fd:Ä0):Prop:=∃ (c P:Æ) (q:Str),fd.code=.ref c/\Ä2 K c P=true/\(∀ sc n f cd,(Í9 nm sc n f cd).qual++"<lambda>"=q)/\(P,q)∈TB.tb/\∀ p∈TB.tb,p.1=P->p.2=q
def Low(P:Ü)(w:ì)(K:Â)(mg:Str->Option Ã)(base:æ)(G:Gs)(k:Nat):Prop:=∀ f nm ps,G.fns[f]?=some (nm,ps)->∃ fa fd,mg nm=some (.ref fa)/\Ì1 K (.ref fa)=true/\Binds K fd ps []/\P40 P w K mg base (CX1 P w) k fa fd ps (spF K (lowG G k) f ps.length)
theorem r42(g:GX P w K mg base G cn){lm:Bool}{N ps:List Str}{qual:Str}{sc:ú}{f:Æ}{fd:Ä0}{cd:Ã}{A:ö}{outer:List Ç4}{s:Å}{H:Hp}{E:XK}(S:k00 N ps sc)(hl:N.all (E80 sc)=true)
  (hr:z30 G.lv (A.deeper (Í9 qual sc s.heap.objs.size f cd))) (hc:fd.code=cd) (hlam:lm=true->∃ k fR fdR,G.lv=k + 2/\v02 P w K mg base G.cls fR fdR/\v22 K qual fd/\Low P w K mg base G k):XS lm (G20 (CX1 P w) P w K mg base N qual sc f cd A outer s H E) G E N sc cn where
 gok:=g.gok
 fna:=g.fna
 num:=g.num
 blt:=g.blt
 hN:=rfl
 nd:=S.nd
 vis:=λx hx=>by
  have:=ç.mp hl x hx;unfold E80 at this;rw[Å5,beq_iff_eq,beq_iff_eq] at this;rcases this with h | h
  ·exact .inl h
  ·exact .inr (.inl h)
 glb:=λx h=>h
 cel:=λx h=>h
 calm:=rfl
 room:=hr
 pas:=z12
 lam:=λh=>by
  obtain⟨k,fR,fdR,e1,L,⟨c,P',q,d1,d2,d3,d4,d5⟩,lo⟩:=hlam h;exact⟨c,P',q,k,fR,fdR,rfl,hc.symm.trans d1,d2,d3 _ _ _ _,d4,d5,L.bm,e1,L.cls,L.m,L.kp,L.bd,L.fn k,lo⟩
 sco:=rfl
 fnk:=S.kind
 own:=PassesOwn.leaving
 can:=t11
 fnx:=λ_=>rfl
 cls:=g.cls
theorem R12{x qual:Str}{st:Ä4}{f:Æ}{fd:Ä0}{N ps:List Str}{k:Nat}{sp:Sp}(F:Fun K x qual st f fd)(S:k00 N ps (b70 st))(len:∀ vs H Q E,sp vs H Q E->vs.length=ps.length)
  (hb:∀ (cdv:Ã),fd.code=cdv->∀ (A:ö) (outer:List Ç4) (s:Å) (H:Hp) (vs:List V) (Q:VK) (E:XK),z30 k (A.deeper (Í9 qual (b70 st) s.heap.objs.size f cdv))->sp vs H Q E ->
   ∃ t,PSs (G20 (CX1 P w) P w K mg base N qual (b70 st) f cdv A outer s H E) (i30 st) t/\t { nx:=λ_ H'=>Q .non H',rt:=Q } (L2.start N vs) H):P40 P w K mg base (CX1 P w) (k + 1) f fd ps sp:=by
 obtain⟨oc,od,kV,doc,pm,an,cdv,ct,osl,rfl,lk,hcd⟩:=F.ex;exact x72 lk hcd S len λA outer s H vs Q E hr hsp=>hb cdv rfl A outer s H vs Q E hr hsp
theorem h71:∀ {ss:List S}{vs:List V}{i:Nat}{s:S}{n:Nat},RvA K zA H ss vs->(ss.map some++é n none)[i]?=some (some s)->∃ v,(vs.map some++é n none)[i]?=some (some v)/\RvP K zA H s v
 |[],_,i,s,n,h,e=>by
  cases h;simp only[map_nil,É1] at e;rw[Ð6] at e;split at e <;> cases e
 |a::ss,_,0,s,n,h,e=>by
  cases h with
  |cons h1 h2 =>
   simp only[Å1,Ð0,É0] at e;cases e;exact⟨_,rfl,h1⟩
 |a::ss,_,i + 1,s,n,h,e=>by
  cases h with
  |cons h1 h2 =>
   obtain⟨v,k1,k2⟩:=h71 (i:=i) (s:=s) (n:=n) h2 (by simpa using e)
   exact⟨v,by simpa using k1,k2⟩
theorem Ä5.len{α β:Type}{R:α->β->Prop}:∀ {l:List α}{m:List β},Ä5 R l m->l.length=m.length
 |[],_,h=>by cases h;rfl
 |_::_,_,h=>by
  cases h with
  |cons h1 h2=>simp[Ä5.len h2]
theorem L21(h:RvA K zA H ss vs)(hn:∀ s∈ss,∀ xs,s≠.fr xs):RW K H zA zA (λ_=>none) H (Q.start N.length ss) (L2.start N vs):=by
 have hl:ss.length=vs.length:=Ä5.len h;refine⟨?_,λi j a e=>(nomatch e),λi a e=>(nomatch e),λi a e=>(nomatch e),λi s e=>?_,Ext.refl,.inl rfl,λi a e=>(nomatch e)⟩
 ·unfold Q.start L2.start;simp[hl]
 ·unfold Q.start at e;obtain⟨v,k1,k2⟩:=h71 h e;refine⟨v,?_,?_⟩
  ·unfold L2.start;rw[← hl];exact k1
  ·cases s with
   |d x=>exact⟨rfl,by rw[x60];exact k2⟩|z=>exact⟨rfl,k2⟩|fn l=>exact⟨rfl,k2⟩
   |fr xs =>
    rcases Â3.mp (ä e) with q | q
    ·obtain⟨s',q1,q2⟩:=á.mp q;cases q2;exact absurd rfl (hn _ q1 xs)
    ·cases List.eq_of_mem_replicate q
theorem b52(st:d50 zA z H):u82 zA z1=L50 z z1:=by
 have st:=st.zat;cases zA with
 |none =>
  cases z with
  |none=>rfl|some p=>exact st.elim
 |some a =>
  cases z with
  |none=>exact st.elim|some p=>rfl
theorem y11(st:d50 zA z H):z.isNone=zA.isNone:=by
 have st:=st.zat;cases zA with
 |none =>
  cases z with
  |none=>rfl|some p=>exact st.elim
 |some a =>
  cases z with
  |none=>exact st.elim|some p=>rfl
theorem y21(g:GX P w K mg base G cn){lm:Bool}{N ps:List Str}{nm:Str}{st:Ä4}{fa:Æ}{fd:Ä0}{b:Sm}{f:Nat}{F':FT}(Fn:Fun K nm nm st fa fd)(Sc:k00 N ps (b70 st))(hl:N.all (E80 (b70 st))=true)
  (ch:mtS lm G.fns G.nums cn (b70 st) N b (i30 st)=true) (hq:isQ b=true) (hlam:lm=true->∃ k fR fdR,G.lv=k + 2/\v02 P w K mg base G.cls fR fdR/\v22 K nm fd/\Low P w K mg base G k)
  (hF:∀ l z,F' false f l z=run G.F (.code ps.length N.length b) l z):P40 P w K mg base (CX1 P w) (G.lv + 1) fa fd ps (spF K { G with F:=F',lv:=G.lv + 1 } f ps.length):=by
 refine R12 Fn Sc (λvs H Q E h=>h.1) λcdv hcd A outer s H vs Qv E hr hsp=>?_;obtain⟨hlen,zA,z,ss,r,rv,st',e,po⟩:=hsp;refine⟨_,(r32 (H0:=H) (zE:=zA) (r42 g Sc hl hr hcd hlam) b ch).1 hq,?_⟩;have e0:(if ss.length=ps.length/\ps.length<=N.length then(match ex G.F z.isNone b (Q.start N.length (ss.map plS)) z with
  |some (.ok (.nx _) z1)=>some (R.ok (S.d .non) (L50 z z1))|some (.ok (.rt s) z1)=>some (R.ok s (L50 z z1))|some (.er c z1)=>some (R.er c (L50 z z1))
  |none=>none) else none)=some r:=by
  have:=hF ss z;exact this.symm.trans e
 rw[y11 st'] at e0;split at e0
 ·have rw0:RW K H zA zA (λ_=>none) H (Q.start N.length (ss.map plS)) (L2.start N vs):=L21 rv.plS λs hs xs=>by
   obtain⟨s',_,rfl⟩:=á.mp hs;cases s' <;> exact λh=>nomatch h
  split at e0
  ·rename_i ρ z1 e1;cases e0;refine⟨zA,_,_,z,_,rw0,st',e1,λzA' ow' σ' H' r' st1 _=>?_⟩;refine po .non H' r'.ext ?_ (show Hd K (hz zA H') .non .non from Hd.non);rw[← b52 st'];exact f12 r'.zok st1
  ·rename_i s1 z1 e1;cases e0;refine⟨zA,_,_,z,_,rw0,st',e1,λv H' nz x st1 rv'=>?_⟩;exact po v H' x (by rw[← b52 st'];exact st1) rv'
  ·rename_i c z1 e1;cases e0;refine⟨zA,_,_,z,_,rw0,st',e1,λe H' x st1 hn=>?_⟩;exact po e H' x (by rw[← b52 st'];exact st1) hn
  ·cases e0
 ·cases e0
def lev(G:Gs)(T:List Df)(k:Nat):Gs:={ G with F:=S00 T k,lv:=k }
theorem r52{T:List Df}
  (fna:∀ (f:Nat) (nm:Str) (ps:List Str),G.fns[f]?=some (nm,ps)->∀ a,mg nm=some (.ref a)->È9 K Ý nm=some (some (.ref a)))
  (num:∀ p∈G.nums,∃ t,mg p.1=some (.int p.2 t)) (blt:∀ n∈Z01,mg n=none)
  (cls:∀ c x,cn[c]?=some x->mg x=some (.ref (G.cls c))/\Ê6 K (G.cls c) [.type "ValueError",.type "Exception",.type "BaseException",.type "object"] "ValueError.__new__"=true)
  (hd:∀ (f:Nat) (nm:Str) (ps:List Str),G.fns[f]?=some (nm,ps)->∃ (fa:Æ) (fd:Ä0),mg nm=some (.ref fa)/\Ì1 K (.ref fa)=true/\Binds K fd ps [] /\
   ((∃ (lm:Bool) (N:List Str) (st:Ä4) (b:Sm),T[f]?=some (Df.code ps.length N.length b)/\Fun K nm nm st fa fd/\k00 N ps (b70 st)/\N.all (E80 (b70 st))=true/\isQ b=true/\mtS lm G.fns G.nums cn (b70 st) N b (i30 st)=true/\(lm=true->∃ fR fdR,v02 P w K mg base G.cls fR fdR/\v22 K nm fd)) ∨
    T[f]?=none)):∀ k,GX P w K mg base (lev G T k) cn:=by
 have zero:∀ k,k < 3->GX P w K mg base (lev G T k) cn:=λk hk=>by
  refine⟨λf nm ps h=>?_,num,blt,cls,fna⟩;obtain⟨fa,fd,h1,h2,h3,_⟩:=hd f nm ps h;refine⟨fa,fd,h1,h2,h3,λvs H Q E q=>q.1,λA outer s H args us vs Q E hr he hb hv hs=>?_⟩;obtain⟨_,zA,z,ss,r,_,_,e,_⟩:=hs
  match k,hk with
  |0,_=>cases e
  |1,_=>cases e
  |2,_=>cases e
 intro k
 induction k using Nat.strongRecOn with
 |ind k ih =>
  match k,ih with
  |0,_=>exact zero 0 (-0)|1,_=>exact zero 1 (-0)|2,_=>exact zero 2 (-0)
  |k + 3,ih =>
   refine⟨λf nm ps h=>?_,num,blt,cls,fna⟩;obtain⟨fa,fd,h1,h2,h3,h4⟩:=hd f nm ps h;refine⟨fa,fd,h1,h2,h3,?_⟩;rcases h4 with ⟨lm,N,st,b,k1,k2,k3,k4,k5,k6,k7⟩ | h4
   ·refine y21 (G:=lev G T (k + 2)) (F':=S00 T (k + 3)) (ih (k + 2) ∅) k2 k3 k4 k6 k5 (λhlm=>?_) λl z=>?_
    ·obtain⟨fR,fdR,L,D⟩:=k7 hlm;exact⟨k,fR,fdR,rfl,L,D,λf nm ps h=>(ih k ∅).gok f nm ps h⟩
    ·show(match T[f]? with | some d=>run (S00 T (k + 2)) d l | none=>M.no) z=_
     rw[k1];rfl
   ·refine⟨λvs H Q E q=>q.1,λA outer s H args us vs Q E hr he hb hv hs=>?_⟩;obtain⟨_,zA,z,ss,r,_,_,e,_⟩:=hs;have e':(match T[f]? with | some d=>run (S00 T (k + 2)) d ss | none=>M.no) z=some r:=e
    rw[h4] at e';cases e'
end
end Q
namespace L2
open PySem PySem.W PySem.Calls PyProof.Rows
def F00(thr sok:Thread->Bool)(stp:SharedT->Thread->Option (SharedT × Thread)):Nat->SharedT->Thread->Option SharedT
 |0,_,_=>none
 |n + 1,s,t=>match thr t with
  |true=>some s
  |false=>match sok t with
   |false=>none
   |true=>match stp s t with
    |some (s',t')=>F00 thr sok stp n s' t'|none=>none
theorem T20:∀ {n:Nat}{s s':SharedT}{t:Thread},F00 through (stepOk n₀ ann) (stepT (denote tb) p w) n s t=some s'->topRun tb p w n₀ ann n s.abs t=some s'.abs
 |0,_,_,_,h=>by cases h
 |n + 1,s,s',t,h=>by
  unfold F00 at h;unfold topRun;cases ht:through t with
  |true=>rw[ht] at h;cases h;rfl
  |false =>
   rw[ht] at h;cases hok:stepOk n₀ ann t with
   |false=>rw[hok] at h;cases h
   |true =>
    rw[hok] at h;cases hst:stepT (denote tb) p w s t with
    |none=>rw[hst] at h;cases h
    |some r=>obtain⟨s₂,t₂⟩:=r;rw[hst] at h;rw[stepT_spec hst];exact T20 h
def grow:List Obj->Nat->BT->BT
 |[],_,t=>t|o::r,i,t=>grow r (i + 1) (t.ins i o)
def b62(w:ì)(os:OsState):SharedT:=⟨grow (È3 w.params).objs.toList 0 .nil,11,(È3 w.params).life,Array.mk [],boot_drawn,boot_toks,os⟩
theorem y31:∀ (w:ì) (os:OsState),(b62 w os).abs=⟨È3 w.params,Array.mk [],boot_drawn,boot_toks,os⟩:=λw os=>by kernel_rfl
theorem y41:∀ w:ì,((È3 w.params).isNs Ý&&(Array.mk []:Array GenState).size == 0,(È3 w.params).objs.size,(È3 w.params).nsMap Ý "__annotations__")=(true,11,some (.ref 6)):=λw=>by kernel_rfl
theorem b72{p q:Ü}{loose:List Str}{Xt:Å->Bool}{α:Type}{Yf:Å->α}{Ya:ì->α}{N:Nat}
  (e:opening p=plainProg p.main.scope.names) (hN:ble 600 N=true) (f:∀ s,fenceModules? p s=some s)
  (run:∀ (w:ì) (os:OsState),(F00 through (stepOk 11 (some (.ref 6))) (stepT (denote treeTable) p w) N (b62 w os) (topStub p)).map (λs =>
   (staticsOk (Í8 p.main.body) (È3 w.params) s.abs.heap&&namesBound p s.abs.heap&&gensDone s.abs&&laidKept (È3 w.params) s.abs.heap,
    openSeen q loose (Í8 p.main.body) Xt true s.abs,Yf s.abs))=some (true,openGood q loose,Ya w)):LeftO p q loose Xt Yf Ya N:=λw=>by
 obtain⟨⟨h,gs,d,k,os⟩,e1,e2⟩:=Í.mp (boot_open (N:=N) e hN f w);obtain⟨rfl,rfl,rfl,rfl⟩:h=È3 w.params/\gs=Array.mk []/\d=boot_drawn/\k=boot_toks:=by simpa using e2
 obtain⟨z1,z2,z3⟩:_/\_/\_:=by simpa only [Î1] using y41 w
 obtain⟨s1,r1,r2⟩:=Í.mp (run w os);obtain⟨l1,l2,l3⟩:_/\_/\_:=by simpa only [Î1] using r2
 have r:=T20 r1;rw[y31] at r;unfold openEnds;rw[e1];show Ì6 _ (topFrom treeTable p w N _)=_;unfold topFrom;dsimp only;rw[z1,z2,z3,r];show Ì6 _ (match staticsOk (Í8 p.main.body) (È3 w.params) s1.abs.heap&&namesBound p s1.abs.heap&&gensDone s1.abs&&laidKept (È3 w.params) s1.abs.heap with | true=>_ | false=>_)=_
 rw[l1];exact congrArg Option.some (Prod.ext l2 l3)
def T30(o:Obj):Bool:=match o with
 |⟨.none,none,.fields vs,sl⟩=>vs.isEmpty&&sl.isEmpty|_=>false
def F42(h:æ)(a:Æ):Option Obj:=match h.get? a with
 |some o=>if T30 o then none else some o|none=>none
def fragOf(h:æ):Frag:=(î h.objs.size).filterMap λa=>(F42 h a).map λo=>(a,o)
theorem v90(g:Æ->Option Obj)(a:Æ):∀ l:List Æ,(l.filterMap λa=>(g a).map λo=>(a,o)).lookup a=if a∈l then g a else none
 |[]=>rfl
 |b::r=>by
  by_cases hb:a=b
  ·subst hb;rw[if_pos Ê];cases hg:g a with
   |none =>
    rw[À1,hg];show(r.filterMap λa=>(g a).map λo=>(a,o)).lookup a=none;rw[v90 g a r];split
    ·exact hg
    ·rfl
   |some o =>
    rw[À1,hg];show Ë4 a ((a,o)::_)=some o;rw[List.lookup_cons_self]
  ·have hm:(a∈b::r)↔a∈r:=by rw[Á7];exact⟨λh=>h.resolve_left hb,Ö1⟩
   have ih:=v90 g a r;have e:(if a∈b::r then g a else none)=if a∈r then g a else none:=by simp only[hm]
   rw[e,← ih];cases hg:g b with
   |none=>rw[À1,hg];rfl
   |some o =>
    rw[À1,hg];show Ë4 a ((b,o)::_)=_;have:(a == b)=false:=by simpa using hb
    simp only[Ë4,this]
theorem y51(h:æ):(fragOf h).In h:=λa o e=>by
 unfold fragOf at e;rw[v90] at e;split at e
 ·unfold F42 at e;cases hg:h.get? a with
  |none=>rw[hg] at e;cases e
  |some u =>
   rw[hg] at e;dsimp only at e;split at e
   ·cases e
   ·exact e
 ·cases e
theorem b82(h:T30 o=true):o=tabObj #[]:=by
 unfold T30 at h;split at h
 ·rename_i vs sl;rw[Á,Array.isEmpty_iff,Array.isEmpty_iff] at h;obtain⟨rfl,rfl⟩:=h;rfl
 ·cases h
theorem n21(e:h.get? a=some o)(t:T30 o=true):(fragOf h).lookup a=none:=by
 unfold fragOf;rw[v90];split
 ·unfold F42;rw[e];exact if_pos t
 ·rfl
def y61(K:Frag)(x:Str):Option (Str × Str × Ì5 × FuncBody × ú × Æ × List (Str × Æ) × Ã × Æ × Bool):=match nsIn K Ý x with
 |some (some (.ref at0))=>(match K.lookup at0 with
  |some ⟨_,_,.func fd,_⟩=>some (fd.name,fd.qualname,fd.params,fd.body,fd.scope,fd.globals,fd.closure,fd.defaults,fd.builtins,codeIn K fd.code x)
  |_=>none)
 |_=>none
def b92(x:Str)(st:Ä4):Option (Str × Str × Ì5 × FuncBody × ú × Æ × List (Str × Æ) × Ã × Æ × Bool):=some (x,x,J50 st,.stmts (i30 st),b70 st,Ý,[],.none,Ë9,true)
theorem a81{K:Frag}{x:Str}{st:Ä4}(e:y61 K x=b92 x st):∃ f fd,nsIn K Ý x=some (some (.ref f))/\Fun K x x st f fd/\∃ oc od sl,K.lookup f=some ⟨oc,od,.func fd,sl⟩:=by
 unfold y61 b92 at e;split at e
 ·rename_i f hf;split at e
  ·rename_i oc od fd sl hl;obtain⟨nm,qn,pm,bd,sc,gl,cl,df,kd,dc,py,an,cd,ct,bl⟩:=fd;simp only[Î1,È2] at e;obtain⟨rfl,rfl,rfl,rfl,rfl,rfl,rfl,rfl,rfl,hc⟩:=e;exact⟨f,_,hf,⟨⟨oc,od,kd,dc,py,an,cd,ct,sl,rfl,hl,hc⟩,by simp only[keepIn,hl]⟩,oc,od,sl,hl⟩
  ·cases e
 ·cases e
def tab0At(h:æ)(T:Æ):Bool:=match h.get? T with
 |some o=>T30 o|none=>false
theorem y71{h:æ}{T:Æ}(e:tab0At h T=true):h.get? T=some (tabObj #[]):=by
 unfold tab0At at e;split at e
 ·rename_i o ho;rw[ho,b82 e]
 ·cases e
def y81(h:æ)(K:Frag)(x:Str):Option Addr:=match nsIn K Ý x with
 |some (some (.ref at0))=>(match K.lookup at0 with
  |some ⟨_,_,.func fn0,_⟩=>(match fn0.code with
   |.ref c=>(match K.lookup c with
    |some ⟨_,_,.fields vs,_⟩=>(match (vs[11]?:Option Ã) with
     |some (.ref T)=>if codeHdIn K c T&&tab0At h T then some T else none
     |_=>none)
    |_=>none)
   |_=>none)
  |_=>none)
 |_=>none
theorem n31{h:æ}{K:Frag}{x:Str}{T:Æ}(e:y81 h K x=some T):h.get? T=some (tabObj #[])/\∃ f oc od fd sl c,nsIn K Ý x=some (some (.ref f))/\K.lookup f=some ⟨oc,od,.func fd,sl⟩/\fd.code=.ref c/\codeHdIn K c T=true:=by
 unfold y81 at e;split at e
 ·rename_i f hf;split at e
  ·rename_i oc od fd sl hl;split at e
   ·rename_i c hc;split at e
    ·split at e
     ·rename_i T' _;split at e
      ·rename_i q;cases e;rw[Á] at q;obtain⟨q1,q2⟩:=q;exact⟨y71 q2,f,oc,od,fd,sl,c,hf,hl,hc,q1⟩
      ·cases e
     ·cases e
    ·cases e
   ·cases e
  ·cases e
 ·cases e
def h90:List Str:=["NoWeb","NoLot","NoPlaces","NoPlace","NoTie","NoChance","NoChances","NoPaper","TooMany","NoText","NoLine","NoDeed"]
def T40(K:Frag)(x:Str):Option Addr:=match nsIn K Ý x with
 |some (some (.ref f))=>some f|_=>none
theorem M50{K:Frag}{x:Str}{f:Æ}(e:T40 K x=some f):nsIn K Ý x=some (some (.ref f)):=by
 unfold T40 at e;split at e
 ·cases e;assumption
 ·cases e
abbrev I82:=Option (Option Ã) × Option (Option Ã) × Option Bool × Option Bool × Option (Option Ã) × Bool × Option Bool × Option Bool × Bool × List (Option Bool)
def a91(K:Frag)(C:Æ):I82:=(findIn K (.ref C) "__getattribute__",findIn K (.ref C) "__getattr__",mroIn K C (.type "BaseException"),mroIn K C (.type "object"),findIn K (.ref C) "__class__",hasDictIn K C,kitOne K (.ref C) (.type "ValueError"),
 (T40 K "ChanceError").bind λD=>exmOne K (.ref C) (.ref D),excIn K C [.type "ValueError",.type "Exception",.type "BaseException",.type "object"] "ValueError.__new__",h90.map λy=>(T40 K y).bind λB=>kitOne K (.ref C) (.ref B))
def y91(x:Str):I82:=(some (some (Ï1 "BaseException.__getattribute__")),some (none:Option Ã),some true,some true,some (some (Ï1 "object.__class__")),true,some true,some true,true,h90.map λy=>some (decide (x=y)))
def b01(K:Frag)(x:Str):Option Int:=match nsIn K Ý x with
 |some (some (.int i _))=>some i|_=>none
theorem b11{K:Frag}{x:Str}{i:Int}(e:b01 K x=some i):∃ t,nsIn K Ý x=some (some (.int i t)):=by
 unfold b01 at e;split at e
 ·rename_i t h;cases e;exact⟨t,h⟩
 ·cases e
def b21(K:Frag)(x:Str):Bool:=match nsIn K Ý x with
 |some none=>true|_=>false
theorem b31{K:Frag}{x:Str}(e:b21 K x=true):nsIn K Ý x=some none:=by
 unfold b21 at e;split at e
 ·assumption
 ·cases e
structure n70 where
 ds:List (Str × Stmt)
 is:List (Str × Int)
 ns:List Str
 ms:List Str
 cs:List Str
def n70.obs(q:n70)(s:Å) :=
 let K:=fragOf s.heap
 (q.ds.map λd=>y61 K d.1,q.is.map λd=>b01 K d.1,q.ns.map (b21 K),q.ms.map λx=>(y81 s.heap K x).isSome,q.cs.map λx=>(T40 K x).map (a91 K),
  (specialIn K (.builtin "object.__class__") "__get__",takesIn K (.builtin "object.__class__")))
def n70.due(q:n70)(_:ì) :=
 (q.ds.map λd=>b92 d.1 d.2,q.is.map λd=>some d.2,q.ns.map λ_=>true,q.ms.map λ_=>true,q.cs.map λx=>some (y91 x),
  (some (some (Ï1 "getset_descriptor.__get__")),some true))
structure Facts(q:n70)(K:Frag)(h:Heap):Prop where
 fn:∀ d∈q.ds,∃ f fd,nsIn K mainGlobals d.1=some (some (.ref f))/\Fun K d.1 d.1 d.2 f fd/\∃ oc od sl,K.lookup f=some ⟨oc,od,.func fd,sl⟩
 it:∀ d∈q.is,∃ t,nsIn K mainGlobals d.1=some (some (.int d.2 t))
 no:∀ x∈q.ns,nsIn K mainGlobals x=some none
 mt:∀ x∈q.ms,∃ T,h.get? T=some (tabObj #[])/\K.lookup T=none/\∃ f oc od fd sl c,nsIn K mainGlobals x=some (some (.ref f))/\K.lookup f=some ⟨oc,od,.func fd,sl⟩/\fd.code=.ref c/\codeHdIn K c T=true
 cl:∀ x∈q.cs,∃ C,nsIn K mainGlobals x=some (some (.ref C))/\a91 K C=y91 x
 sp:specialIn K (.builtin "object.__class__") "__get__"=some (some (Value.builtin "getset_descriptor.__get__"))
 tk:takesIn K (.builtin "object.__class__")=some true
theorem H70{α β:Type}{f g:α->β}:∀ {l:List α},l.map f=l.map g->∀ a∈l,f a=g a:=λ{l} h a ha=>List.map_inj_left.mp h a ha
theorem n70.facts(q:n70)(w:ì)(s:Å)(e:q.obs s=q.due w):Facts q (fragOf s.heap) s.heap:=by
 unfold n70.obs n70.due at e;simp only[Î1] at e;obtain⟨e1,e2,e3,e4,e5,e6,e7⟩:=e;refine⟨λd hd=>a81 (H70 e1 d hd),λd hd=>b11 (H70 e2 d hd),λx hx=>b31 (H70 e3 x hx),λx hx=>?_,λx hx=>?_,e6,e7⟩
 ·obtain⟨T,hT⟩:=Û2.mp (H70 e4 x hx);obtain⟨h1,h2⟩:=n31 hT;exact⟨T,h1,n21 h1 rfl,h2⟩
 ·obtain⟨C,h1,h2⟩:=Í.mp (H70 e5 x hx);exact⟨C,M50 h1,h2⟩
def n70.hook(q:n70):Hook where
 α:=_
 obs:=q.obs
 val:=q.due
 says:=λ_ h=>∃ K:Frag,K.In h/\Facts q K h
 of:=λw s e=>⟨_,y51 _,q.facts w s e⟩
 keeps:=λ_ h h' ⟨K,X,F⟩ k=>⟨K,X.keeps k,⟨F.fn,F.it,F.no,λx hx=>let ⟨T,a,b⟩:=F.mt x hx;⟨T,k _ _ a,b⟩,F.cl,F.sp,F.tk⟩⟩
end L2
namespace Q
open PySem L2 PySem.Spec PyProof.Rows
structure Row where
 nm:Str
 ps:List Str
 st:Stmt
 N:List Str
 b:Sm
 lm:Bool
def z01(N ps:List Str)(sc:ú):Bool:=sc.kind == .function&&!sc.isCoroutine&&!sc.isGenerator&&decide N.Nodup&&N.take ps.length == ps&&ps.all (λx=>sc.names.lookup x == some .local || sc.names.lookup x == some .cell)&&sc.names.all λy=>y.2 != .free
theorem h81(h:z01 N ps sc=true):k00 N ps sc:=by
 unfold z01 at h;simp only[Á,ð,beq_iff_eq,Ã6,decide_eq_true_eq,Å5] at h;obtain⟨⟨⟨⟨⟨⟨h1,h2⟩,h3⟩,h4⟩,h5⟩,h6⟩,h7⟩:=h;exact⟨h1,h2,h3,h4,h5,h6,λy hy=>by simpa using h7 y hy⟩
def z11(r:Row):Prop:=∀ (kV doc pm:Ã) (an:Option Æ) (cdv ct:Ã) (us:List Ã),us.length=r.ps.length->bindArgs (fnOf r.nm r.nm (J50 r.st) (i30 r.st) (b70 r.st) .none kV doc pm an cdv ct) ⟨us,[]⟩=pure (r.ps.zip us)
def o60:List Row->Prop
 |[]=>True|r::l=>z11 r/\o60 l
theorem o60.at:∀ {l:List Row}{r:Row},o60 l->r∈l->z11 r
 |_::_,_,h,.head _=>h.1|_::_,_,h,.tail _ m=>o60.at h.2 m
theorem us1(h:us.length=1):∃ a,us=[a]:=List.length_eq_one_iff.mp h
theorem us2(h:us.length=2):∃ a b,us=[a,b]:=by
 match us,h with
 |[a,b],_=>exact⟨a,b,rfl⟩
theorem us3(h:us.length=3):∃ a b c,us=[a,b,c]:=by
 match us,h with
 |[a,b,c],_=>exact⟨a,b,c,rfl⟩
theorem us4(h:us.length=4):∃ a b c d,us=[a,b,c,d]:=by
 match us,h with
 |[a,b,c,d],_=>exact⟨a,b,c,d,rfl⟩
def f22(fns:List (Str × List Str))(nums:List (Str × Int))(r:Row):Bool:=mtS r.lm fns nums h90 (b70 r.st) r.N r.b (i30 r.st)&&isQ r.b&&r.N.all (E80 (b70 r.st))&&z01 r.N r.ps (b70 r.st)
def G40(rows:List Row):List (Str × List Str):=rows.map λr=>(r.nm,r.ps)
def tabOf(rows:List Row):List Df:=rows.map λr=>Df.code r.ps.length r.N.length r.b
def H80(rows:List Row)(nums:List (Str × Int))(mn:List Str)(ex:List (Str × Ä4)):n70:=⟨rows.map (λr=>(r.nm,r.st))++ex,nums,"ValueError"::Z01,mn,h90⟩
def clsAt(K:Â)(c:Nat):Addr:=(T40 K (h90.getD c "")).getD 0
theorem r62{K:Â}{C:Æ}{c:Nat}{x:Str}(hc:h90[c]?=some x)(h:È9 K Ý x=some (some (.ref C))):clsAt K c=C:=by
 unfold clsAt;rw[Ó,hc];show(T40 K x).getD 0=C;unfold T40;rw[h];rfl
theorem r72{K:Â}{h:æ}{mg:Str->Option Ã}{q:n70}{x:Str}{j:Nat}(X:K.In h)(G:h.Ns Ý mg)(F:Facts q K h)(hx:x∈q.cs)(hj:names12[j]?=some x)(hv:("ValueError":Str)∈q.ns):∃ C,È9 K Ý x=some (some (.ref C))/\R30 K mg C j/\Ê6 K C [.type "ValueError",.type "Exception",.type "BaseException",.type "object"] "ValueError.__new__"=true:=by
 obtain⟨C,hC,e⟩:=F.cl x hx;unfold a91 y91 at e;simp only[Î1] at e;obtain⟨u1,u2,u3,u4,u5,hd,ve,ce,ex,ys⟩:=e;obtain⟨D,hD,ce⟩:=Ì.mp ce;have lt:j < 12:=(Ú.mp hj).1;refine⟨C,hC,⟨λi y hy=>?_,⟨u1,u2,u3,u4,u5,F.sp,F.tk⟩,hd,ve,mg_none_of X G (F.no _ hv),⟨D,mg_of X G (M50 hD),ce⟩,lt⟩,ex⟩;have hm:=H70 ys y (ä hy);obtain⟨B,hB,hk⟩:=Ì.mp hm;refine⟨B,mg_of X G (M50 hB),hk.trans (congrArg some (decide_eq_decide.mpr ⟨λq=>?_,λq=>?_⟩))⟩
 ·subst q;have nd:names12.Nodup:=by decide +kernel
  exact(List.getElem?_inj (Ú.mp hy).1 nd).mp (hy.trans hj.symm)
 ·subst q;rw[hj] at hy;cases hy;rfl
section
variable {P:Ü}{w:ì}{K:Â}{mg:Str->Option Ã}{base:æ}
theorem ok0(F:P40 P w K mg base (CX1 P w) k f fd ps sp):P40 P w K mg base CX0 k f fd ps (λvs H Q _=>sp vs H Q λ_ _ _=>False) :=
 ⟨λvs H Q E h=>F.len _ _ _ _ h,λA outer s H args us vs Q E hr he hb hv hs=>Ë0 (F.run A outer s H args us vs Q _ hr he hb hv hs) λr s' h=>by
  cases r with
  |error e =>
   obtain⟨_,_,_,_,_,_,_,_,_,_,_,_,_,hE⟩:=h;exact hE.elim
  |ok fl=>cases fl <;> exact h⟩
theorem R22:Û9 (#[]:Array Ã).toList:=by first | trivial | (unfold Û9;trivial)
theorem q60.noT[TB:Tb](h:q60 K H a xs):q60 K (hz none H) a xs:=by
 rcases h with (h | ⟨o,h⟩) | h
 ·exact .inl (.inl (d10 h (λq=>nomatch q)))
 ·exact .inl (.inr ⟨o,d10 h (λq=>nomatch q)⟩)
 ·exact .inr h
theorem r82[TB:Tb]{G:Gs}{T:List Df}{k f:Nat}{H:Hp}{a:Æ}{ns:List Int}(pure:a70 T k f [.d (.lst (ns.map D.int))] none=some (.ok (.d (.bl true)) none))(hH:∀ p∈TB.tb,H p.1=some (.tbl #[]))(hS:q60 K H a (ns.map V.int)) :
  spF K (lev G T k) f 1 [.ref a] H (λv _=>v=.bl true) λ_ _ _=>False:=by
 refine⟨rfl,none,none,[.d (.lst (ns.map D.int))],_,.cons ?_ .nil,⟨trivial,λp hp=>⟨#[],hH p hp,R22,λpos c e=>nomatch e⟩⟩,pure,λv H' x st rv=>Hd.bl_ (show Hd K (hz none H') (.bl true) v from rv)⟩;show Hd K (hz none H) (.lst (ns.map D.int)) (.ref a);unfold Hd;exact⟨a,ns.map V.int,rfl,hS.noT,HdA.ints ns⟩
end
def I92(nm:Str):Str:=(Í9 nm ⟨.function,[],false,false,[]⟩ 0 0 .none).qual++"<lambda>"
theorem R31{rows:List Row}{f:Nat}{nm:Str}{ps:List Str}(h:(G40 rows)[f]?=some (nm,ps)):∃ r∈rows,rows[f]?=some r/\r.nm=nm/\r.ps=ps:=by
 unfold G40 at h;rw[Ø] at h;obtain⟨r,h1,h2⟩:=Í.mp h;cases h2;exact⟨r,ä h1,h1,rfl,rfl⟩
section
variable [TB:Tb] {P:Ü}{w:ì}{K:Â}{h:æ}{mg:Str->Option Ã}{base:æ}{rows:List Row}{nums:List (Str × Int)}{mn:List Str}{ex:List (Str × Ä4)}
def r92(rows:List Row)(mn:List Str)(ex:List (Str × Ä4)):Prop:=∀ r∈rows,r.lm=true->r.nm∈mn/\∃ (sR:Ä4) (n:Nat),(("_law_refused":Str),sR)∈ex/\b70 sR=u80/\i30 sR=Y90 n/\z11 ⟨"_law_refused",["_law_call"],sR,[],.nil,false⟩
def F52[TB:Tb](K:Â)(rows:List Row):Prop:=∀ r∈rows,r.lm=true->∀ fd,(∃ f oc od sl,È9 K Ý r.nm=some (some (.ref f))/\K.lookup f=some ⟨oc,od,.func fd,sl⟩)->v22 K r.nm fd
theorem z21(X:K.In h)(Gn:h.Ns Ý mg)(Q:Facts (H80 rows nums mn ex) K h):∀ c x,h90[c]?=some x->È9 K Ý x=some (some (.ref (clsAt K c)))/\R30 K mg (clsAt K c) c/\Ê6 K (clsAt K c) [.type "ValueError",.type "Exception",.type "BaseException",.type "object"] "ValueError.__new__"=true:=λc x hc=>by
 obtain⟨C,h1,h2,h3⟩:=r72 (x:=x) (j:=c) X Gn Q (ä hc) hc Ê;rw[r62 hc h1];exact⟨h1,h2,h3⟩
theorem z31(X:K.In h)(Gn:h.Ns Ý mg)(Q:Facts (H80 rows nums mn ex) K h)(bm:BMain mg base)(hR:r92 rows mn ex)(hr:r∈rows)(hlm:r.lm=true):∃ fR fdR,v02 P w K mg base (clsAt K) fR fdR:=by
 obtain⟨hmn,sR,n,g1,g2,g3,g4⟩:=hR r hr hlm;obtain⟨fR,fdR,a2,F2,oc2,od2,sl2,lk2⟩:=Q.fn ("_law_refused",sR) (ê _ g1);refine⟨fR,fdR,bm,λj hj=>?_,mg_of X Gn a2,F2.kp,F2.binds g4,λk=>l02 F2 g2 g3 (mg_none_of X Gn (Q.no _ (É _ (-0)))) (mg_none_of X Gn (Q.no _ (É _ (-0))))⟩
 have hx:∃ x,h90[j]?=some x:=⟨_,Ð (by exact hj)⟩
 obtain⟨x,hx⟩:=hx;exact(z21 X Gn Q j x hx).2.1
theorem c02(X:K.In h)(Gn:h.Ns Ý mg)(Q:Facts (H80 rows nums mn ex) K h)(ok:rows.all (f22 (G40 rows) nums)=true)(bd:o60 rows)(bm:BMain mg base)(hR:r92 rows mn ex)(hT:F52 K rows)(F0:FT):∀ k,GX P w K mg base (lev ⟨G40 rows,nums,F0,clsAt K,0⟩ (tabOf rows) k) h90:=by
 refine r52 (λf nm ps hf a ha=>?_) (λp hp=>?_) (λn hn=>?_) (λc x hc=>?_) λf nm ps hf=>?_
 ·obtain⟨r,hr,hr2,rfl,rfl⟩:=R31 hf;obtain⟨fa,fd,a1,_⟩:=Q.fn (r.nm,r.st) (Å0 _ (á.mpr ⟨r,hr,rfl⟩));have e:=mg_of X Gn a1;rw[ha] at e;cases e;exact a1
 ·obtain⟨t,e⟩:=Q.it p hp;exact⟨t,mg_of X Gn e⟩
 ·exact mg_none_of X Gn (Q.no n (É _ hn))
 ·obtain⟨h1,_,h3⟩:=z21 X Gn Q c x hc;exact⟨mg_of X Gn h1,h3⟩
 ·obtain⟨r,hr,hr2,rfl,rfl⟩:=R31 hf;obtain⟨fa,fd,a1,F1,oc,od,sl,lk⟩:=Q.fn (r.nm,r.st) (Å0 _ (á.mpr ⟨r,hr,rfl⟩));have rb:=ç.mp ok r hr;unfold f22 at rb;simp only[Á] at rb;obtain⟨⟨⟨b1,b2⟩,b3⟩,b4⟩:=rb;refine⟨fa,fd,mg_of X Gn a1,F1.kp,F1.binds (bd.at hr),.inl ⟨r.lm,r.N,r.st,r.b,?_,F1,h81 b4,b3,b2,b1,λhlm=>?_⟩⟩
  ·unfold tabOf;rw[Ø,hr2];rfl
  ·obtain⟨fR,fdR,L⟩:=z31 (P:=P) (w:=w) X Gn Q bm hR hr hlm;exact⟨fR,fdR,L,hT r hr hlm fd ⟨fa,oc,od,sl,a1,lk⟩⟩
theorem s02(X:K.In h)(Gn:h.Ns Ý mg)(Q:Facts (H80 rows nums mn ex) K h)(ok:rows.all (f22 (G40 rows) nums)=true)(bd:o60 rows)(bm:BMain mg base)(hR:r92 rows mn ex)(hT:F52 K rows)(F0:FT)(k:Nat)(hi:rows[i]?=some r)(F1:Fun K r.nm r.nm r.st fa fd)
  (hfd:∃ f oc od sl,È9 K Ý r.nm=some (some (.ref f))/\K.lookup f=some ⟨oc,od,.func fd,sl⟩):P40 P w K mg base (CX1 P w) (k + 3) fa fd r.ps (spF K (lev ⟨G40 rows,nums,F0,clsAt K,0⟩ (tabOf rows) (k + 3)) i r.ps.length):=by
 have hr:=ä hi;have rb:=ç.mp ok r hr;unfold f22 at rb;simp only[Á] at rb;obtain⟨⟨⟨b1,b2⟩,b3⟩,b4⟩:=rb;have all:=c02 (P:=P) (w:=w) X Gn Q ok bd bm hR hT F0;refine y21 (G:=lev ⟨G40 rows,nums,F0,clsAt K,0⟩ (tabOf rows) (k + 2)) (F':=S00 (tabOf rows) (k + 3)) (all (k + 2)) F1 (h81 b4) b3 b1 b2 (λhlm=>?_) λl z=>?_
 ·obtain⟨fR,fdR,L⟩:=z31 (P:=P) (w:=w) X Gn Q bm hR hr hlm;exact⟨k,fR,fdR,rfl,L,hT r hr hlm fd hfd,λf nm ps h=>(all k).gok f nm ps h⟩
 ·show(match (tabOf rows)[i]? with | some d=>run (S00 (tabOf rows) (k + 2)) d l | none=>M.no) z=_
  unfold tabOf;rw[Ø,hi];rfl
end
theorem z41{P:Ü}{w:ì}{K:Â}{mg mb:Str->Option Ã}{k:Nat}{fa a:Æ}{fd:Ä0}{x:Str}{sp:Sp}{s₁:Å}{vs:List Ã}{ns:List Int}{ts:List Æ}
  (KX:K.In s₁.heap) (hns:s₁.heap.Ns Ý mg) (hb:s₁.heap.Ns Ë9 mb) (hbb:∀ x:Str,x≠"__name__"->mb x=è x) (hlim:s₁.heap.NoLimit) (hg:s₁.gens=#[])
  (ha:s₁.heap.get? a=some { cls:=.type "list",data:=.seq vs.toArray }) (hi:É7 vs ns) (hl:ns.length<=sizeLine) (hr:z30 k Ú2)
  (hT:∀ Pt∈ts,s₁.heap.get? Pt=some (Ç0 #[])/\K.lookup Pt=none/\∃ c,Ä2 K c Pt=true) (bmn:BMain mg s₁.heap)
  (F:∀ base:æ,K.In base->base.Ns Ý mg->BMain mg base->P40 P w K mg base CX0 k fa fd [x] sp) (hbind:∀ (s:Å) (u:Ã),BindsTo s fd ⟨[u],[]⟩ [(x,u)])
  (hsp:∀ H:Hp,(∀ Pt∈ts,H Pt=some (.tbl #[]))->q60 K H a (ns.map V.int)->sp [.ref a] H (λv _=>v=.bl true) λ_ _ _=>False) :
  Ñ2 (Ö P w) Ú2 (.call (.ref fa) ⟨[.ref a],[]⟩) (λr s'=>r=.ok (.ret (.bool true))/\OldK s₁.heap s'.heap/\s'.os=s₁.os/\Ñ6 s'.gens) s₁:=by
 have rv:=Q50 hi;have lenV:=hi.length;have naT:a ∉ ts:=λh=>by have:=(hT a h).1;rw[ha] at this;cases this
 have core:∀ H:Hp,(∀ Pt∈ts,H Pt=some (.tbl #[]))->(∀ b,H b=none∨b∈ts∨(b=a/\∃ xs,H b=some (.frz { cls:=.type "list",data:=.seq vs.toArray } (.lst xs))))->q60 K H a (ns.map V.int)->HOk P w H s₁.heap->(H a≠none->K.lookup a=none) ->
   Ñ2 (Ö P w) Ú2 (.call (.ref fa) ⟨[.ref a],[]⟩) (λr s'=>r=.ok (.ret (.bool true))/\OldK s₁.heap s'.heap/\s'.os=s₁.os/\Ñ6 s'.gens) s₁:=by
  intro H hH hO hS hok hK;have plainN:∀ {b:Æ}{o:Obj},s₁.heap.get? b=some o->(∀ xs n,o.data≠.seq xs n)->(∀ xs,o.data≠.fields xs)->H b=none:=λ{b o} e d1 d2=>by
   rcases hO b with z | z | ⟨z,_⟩
   ·exact z
   ·have:=(hT b z).1;rw[e] at this;cases this;exact absurd rfl (d2 _)
   ·rw[z,ha] at e;cases e;exact absurd rfl (d1 _ _)
  have nsK:∀ {b:Æ}{m:Str->Option Ã},s₁.heap.Ns b m->(D61 s₁.heap H).Ns b m:=λ{b m} ⟨o,es,ep,e,d,r⟩=>⟨o,es,ep,I60 e (plainN e (λxs n z=>by rw[d] at z;cases z) λxs z=>by rw[d] at z;cases z),d,r⟩
  have hKb:K.In (D61 s₁.heap H):=λb o e=>I60 (KX b o e) (by
   rcases hO b with z | z | ⟨z,xs,z2⟩
   ·exact z
   ·rw[(hT b z).2.1] at e;cases e
   ·rw[z] at e z2;rw[hK (by rw[z2];exact λy=>nomatch y)] at e;cases e)
  have hM:Mod K mg (D61 s₁.heap H):=⟨hKb,nsK hns,⟨mb,nsK hb,hbb⟩,let ⟨mc,h1,h2⟩:=hlim;⟨mc,nsK h1,h2⟩⟩;have hBM:BMain mg (D61 s₁.heap H):=by
   obtain⟨bm,ob,b1,b2,b3,b4,b5,b6⟩:=bmn;exact⟨bm,ob,b1,b2,I60 b3 (plainN b3 (λxs n z=>by rw[b6] at z;cases z) λxs z=>by rw[b6] at z;cases z),b4,b5,b6⟩
  have e0:T31 P w K mg (D61 s₁.heap H) Ú2 [] s₁ H:=⟨rfl,hM,λb o e=>S61 e,Ö7 (o51 _ _),trivial,λb hb=>absurd (show b∈([]:List Æ) from hb) (by simp),hok,.of_eq hg⟩
  refine Ë0 ((F _ hKb (nsK hns) hBM).run Ú2 [] s₁ H ⟨[.ref a],[]⟩ [.ref a] [.ref a] _ _ hr e0 (hbind s₁ (.ref a)) (.cons rfl .nil) (hsp H hH hS)) λr s' h=>?_;cases r with
  |error e=>exact ý h
  |ok fl =>
   cases fl with
   |next=>exact ý h
   |brk=>exact ý h|cont=>exact ý h
   |ret u =>
    obtain⟨v,H',os,bare,un,hok',r',q⟩:=h;have q':v=.bl true:=q;subst q';obtain rfl:u=Ì9 true:=r';refine⟨rfl,⟨λb o e=>?_,λb o e=>un.there b o e (by simp)⟩,os,bare⟩
    rcases hO b with z | z | ⟨z,xs,z2⟩
    ·exact .inl (un.keep b o e z (by intro y;exact absurd (show b∈([]:List Æ) from y) (by simp)) (by simp))
    ·obtain⟨t1,_,c,t2⟩:=hT b z;rw[e] at t1;cases t1;obtain⟨more,m1⟩:=un.tbls b _ (hH b z);have m2:s'.heap.get? b=some { cls:=.none,data:=.fields (#[]++more) }:=hok' b _ m1;have CH:=codeHd_of_K KX t2;exact .inr (.inl ⟨(CH.tab e).isCodeTable,rfl,#[],more,rfl,m2⟩)
    ·have z3:=un.frzs b _ _ z2;obtain⟨e1,_⟩:=hok b _ z2;obtain⟨e2,_⟩:=hok' b _ z3;rw[e] at e1;cases e1;exact .inl e2
 cases hk:K.lookup a with
 |some o =>
  have e:=KX a o hk;rw[ha] at e;cases e;refine core (λb=>if b∈ts then some (.tbl #[]) else none) (λPt h=>if_pos h) (λb=>?_) (.inr ⟨vs.toArray,_,hk,by rw[Õ,lenV];exact hl,by simpa using rv⟩) (λb u z=>?_) λz=>absurd (if_neg naT) z
  ·by_cases h:b∈ts
   ·exact .inr (.inl h)
   ·exact .inl (if_neg h)
  ·by_cases h:b∈ts
   ·have z':=(if_pos h).symm.trans z;cases z';exact(hT b h).1
   ·have z':=(if_neg h).symm.trans z;cases z'
 |none =>
  refine core (λb=>if b=a then some (.frz { cls:=.type "list",data:=.seq vs.toArray } (.lst (ns.map V.int))) else if b∈ts then some (.tbl #[]) else none) (λPt h=>?_) (λb=>?_) (.inl (.inr ⟨{ cls:=.type "list",data:=.seq vs.toArray },if_pos rfl⟩)) (λb u z=>?_) λ_=>hk
  ·rw[if_neg (λy=>naT (by rw[← y];exact h)),if_pos h]
  ·by_cases hb:b=a
   ·exact .inr (.inr ⟨hb,_,if_pos hb⟩)
   ·by_cases h:b∈ts
    ·exact .inr (.inl h)
    ·exact .inl (by rw[if_neg hb,if_neg h])
  ·by_cases hb:b=a
   ·have z':=(if_pos hb).symm.trans z;cases z';subst hb;exact⟨ha,by rw[È];exact hl,vs,_,rv,ha⟩
   ·replace z:=(if_neg hb).symm.trans z
    by_cases h:b∈ts
    ·have z':=(if_pos h).symm.trans z;cases z';exact(hT b h).1
    ·have z':=(if_neg h).symm.trans z;cases z'
theorem L31{l:PySem.W.OpenLaw}{n k:Nat}{q:Ü}{loose:List Str}{XP:(Str->Option Ã)->æ->Prop}{d:DefRec}{A:n70}{x:Str}
  (hn:l.most=some n) (hn2:n<=sizeLine) (hdf:d.params.defaults=[]) (hr:z30 k Ú2)
  (F:∀ (w:ì) (mg:Str->Option Ã) (fa:Æ) (h:æ) (K:Â),Facts A K h->K.In h->h.Ns Ý mg->mg d.name=some (.ref fa) ->
   ∃ (fd:Ä0) (ts:List Æ) (sp:Sp),(∀ Pt∈ts,h.get? Pt=some (Ç0 #[])/\K.lookup Pt=none/\∃ c,Ä2 K c Pt=true)/\(∀ (s:Å) (u:Ã),BindsTo s fd ⟨[u],[]⟩ [(x,u)]) /\
    (∀ base:æ,K.In base->base.Ns Ý mg->BMain mg base->P40 l.prog w K mg base CX0 k fa fd [x] sp) /\
    ∀ (H:Hp) (a:Æ) (ns:List Int),ns.length<=n->(∀ Pt∈ts,H Pt=some (.tbl #[]))->q60 K H a (ns.map V.int)->sp [.ref a] H (λv _=>v=.bl true) λ_ _ _=>False) :
  PySem.W.WalkO q loose XP A.hook.says l.row.toRowW d [] (λf vs=>PySem.call f vs):=by
 refine Att.X90 hn hdf λw s₀ s₁ mg mb fa o pm cd doc a vs ns G Y ho hd hcd hmg hobj hints hlen hg=>?_;obtain⟨K,KX,FX⟩:=Y;obtain⟨fd,ts,sp,hT,hb,hF,hsp⟩:=F w mg fa _ K FX KX G.T.g hmg;exact z41 KX G.T.g G.T.b G.T.builtins G.T.nolimit hg hobj hints (Þ hlen hn2) hr hT G.T.bmain hF hb λH hH hS=>hsp H a ns hlen hH hS
theorem c12{l:PySem.W.OpenLaw}{rows:List Row}{nums:List (Str × Int)}{mn:List Str}{ex:List (Str × Ä4)}{k iL n:Nat}{rL:Row}(ok:rows.all (f22 (G40 rows) nums)=true)(bd:o60 rows)(hL:rows[iL]?=some rL)(hn:rL.nm="law")(hp:rL.ps=[("_law_script":Str)])(hmn:mn.length<=1)(hR:r92 rows mn ex)
  (pure:∀ ns:List Int,ns.length<=n->a70 (tabOf rows) (k + 3) iL [.d (.lst (ns.map D.int))] none=some (.ok (.d (.bl true)) none)) (w:ì) (mg:Str->Option Ã) (fa:Æ) (h:æ) (K:Â) (Q:Facts (H80 rows nums mn ex) K h) (X:K.In h) (Gn:h.Ns Ý mg) (hfa:mg "law"=some (.ref fa)) :
   ∃ (fd:Ä0) (ts:List Æ) (sp:Sp),(∀ Pt∈ts,h.get? Pt=some (Ç0 #[])/\K.lookup Pt=none/\∃ c,Ä2 K c Pt=true)/\(∀ (s:Å) (u:Ã),BindsTo s fd ⟨[u],[]⟩ [("_law_script",u)]) /\
    (∀ base:æ,K.In base->base.Ns Ý mg->BMain mg base->P40 l.prog w K mg base CX0 (k + 3) fa fd ["_law_script"] sp) /\
    ∀ (H:Hp) (a:Æ) (ns:List Int),ns.length<=n->(∀ Pt∈ts,H Pt=some (.tbl #[]))->q60 K H a (ns.map V.int)->sp [.ref a] H (λv _=>v=.bl true) λ_ _ _=>False:=by
 have hrL:rL∈rows:=ä hL;obtain⟨fL,fdL,aL,FL,ocL,odL,slL,lkL⟩:=Q.fn (rL.nm,rL.st) (Å0 _ (á.mpr ⟨rL,hrL,rfl⟩));have bL:=bd.at hrL;have e:=hfa.symm.trans (mg_of X Gn (by rw[← hn];exact aL))
 cases e;have bT:∀ (s:Å) (u:Ã),BindsTo s fdL ⟨[u],[]⟩ [("_law_script",u)]:=by
  obtain⟨_,_,kV,doc,pm,an,cdv,ct,_,e,_,_⟩:=FL.ex;subst e;intro s u;have:=bL kV doc pm an cdv ct [u] (by rw[hp];rfl)
  rw[hp] at this;exact .of_eq this
 have fin:∀ (TB:Tb) (ts:List Æ),(∀ p∈TB.tb,p.1∈ts)->(∀ Pt∈ts,h.get? Pt=some (Ç0 #[])/\K.lookup Pt=none/\∃ c,Ä2 K c Pt=true)->F52 K rows ->
   ∃ (fd:Ä0) (ts:List Æ) (sp:Sp),(∀ Pt∈ts,h.get? Pt=some (Ç0 #[])/\K.lookup Pt=none/\∃ c,Ä2 K c Pt=true)/\(∀ (s:Å) (u:Ã),BindsTo s fd ⟨[u],[]⟩ [("_law_script",u)]) /\
    (∀ base:æ,K.In base->base.Ns Ý mg->BMain mg base->P40 l.prog w K mg base CX0 (k + 3) fa fd ["_law_script"] sp) /\
    ∀ (H:Hp) (a:Æ) (ns:List Int),ns.length<=n->(∀ Pt∈ts,H Pt=some (.tbl #[]))->q60 K H a (ns.map V.int)->sp [.ref a] H (λv _=>v=.bl true) λ_ _ _=>False:=λTB ts h1 h2 h3=>by
  refine⟨fdL,ts,λvs H Q _=>spF K (lev ⟨G40 rows,nums,λ_ _ _=>M.no,clsAt K,0⟩ (tabOf rows) (k + 3)) iL 1 vs H Q λ_ _ _=>False,h2,bT,λbase kb nb bm=>?_,λH a ns hl hH hS=>r82 (pure ns hl) (λp hp=>hH p.1 (h1 p hp)) hS⟩;have F:=ok0 (s02 (P:=l.prog) (w:=w) X Gn Q ok bd bm hR h3 (λ_ _ _=>M.no) k hL FL ⟨fa,ocL,odL,slL,aL,lkL⟩);rw[hp] at F;exact F
 match mn,hmn,Q with
 |[],_,Q =>
  exact fin ⟨[]⟩ [] (λp hp=>by cases hp) (λp hp=>by cases hp) λr hr hlm=>by
   have:=(hR r hr hlm).1;cases this
 |[m],_,Q =>
  obtain⟨T,t1,t2,f,oc,od,fd,sl,c,t3,t4,t5,t6⟩:=Q.mt m (.head _);refine fin ⟨[(T,I92 m)]⟩ [T] (λp hp=>?_) (λp hp=>?_) λr hr hlm fd' h'=>?_
  ·cases ÿ.mp hp;exact .head _
  ·cases ÿ.mp hp;exact⟨t1,t2,c,t6⟩
  ·have hm:r.nm=m:=ÿ.mp (hR r hr hlm).1;rw[hm] at h' ⊢;obtain⟨f',oc',od',sl',e1,e2⟩:=h';rw[t3] at e1;cases e1;rw[t4] at e2;cases e2;exact⟨c,T,I92 m,t5,t6,λ_ _ _ _=>rfl,.head _,λp hp _=>by cases ÿ.mp hp;rfl⟩
end Q
namespace Q
open L2 (D)
open PySem (Paired)
def h91:Ex->Bool
 |.var _=>false|_=>true
def R32:Ex->Env->Option (Option S)
 |.var i,ρ=>ρ[i]?|_,_=>none
def J02:Option (Option S)->Option S
 |some (some s)=>noS s|_=>none
def blS:S->Option Bool
 |.d (.bl b)=>some b|_=>none
abbrev Du{α:Type}(_:α->Z->Prop)(_:Nat->Z->Prop):Type:=Unit
abbrev Dv{α:Type}(_:α->Prop):Type:=Unit
structure W{α:Type}(m:M α)(z:Z)(Q:α->Z->Prop)(E:Nat->Z->Prop)(du:Du Q E:=()):Prop where
 ex:∃ r,m z=some r/\match r with
  |.ok a z1=>Q a z1|.er c z1=>E c z1
theorem W_e{α:Type}{m:M α}{Q:α->Z->Prop}:W m z Q E↔∃ r,m z=some r/\match r with
  |.ok a z1=>Q a z1|.er c z1=>E c z1:=⟨W.ex,W.mk⟩
abbrev NE:Nat->Z->Prop:=λ_ _=>False
def Get{α:Type}(o:Option α)(P:α->Prop)(_:Dv P:=()):Prop:=match o with
 |some a=>P a|none=>False
theorem s12{α:Type}{a:α}{P:α->Prop}:Get (some a) P↔P a:=Ò3
theorem j50{α:Type}{o:Option α}{P:α->Prop}(h:Get o P):∃ a,o=some a/\P a:=by
 cases o with
 |none=>exact h.elim|some a=>exact⟨a,rfl,h⟩
theorem a00{α:Type}{o:Option α}{a:α}{P:α->Prop}(h:o=some a)(hp:P a):Get o P:=by rw[h];exact hp
theorem z51{α:Type}{o:Option α}{P P':α->Prop}(h:∀ a,P a↔P' a):Get o P↔Get o P':=by
 cases o with
 |none=>exact Ò3|some a=>exact h a
section
variable {α β:Type}{m:M α}{z z1:Z}{Q Q':α->Z->Prop}{E E':Nat->Z->Prop}
theorem W.mono(h:W m z Q E)(hq:∀ a z,Q a z->Q' a z)(he:∀ c z,E c z->E' c z):W m z Q' E':=by
 obtain⟨r,e,h⟩:=h;refine⟨r,e,?_⟩;cases r with
 |ok a z1=>exact hq _ _ h|er c z1=>exact he _ _ h
theorem W.imp(h:W m z Q NE)(hq:∀ a z,Q a z->Q' a z):W m z Q' E':=h.mono hq λ_ _ h=>h.elim
theorem W.ok{a:α}(h:W m z (λb z2=>b=a/\z2=z1) NE):m z=some (.ok a z1):=by
 obtain⟨r,e,h⟩:=h;cases r with
 |ok b z2=>obtain⟨rfl,rfl⟩:=h;exact e
 |er c z2=>exact h.elim
theorem W.er(h:W m z (λ_ _=>False) (λd z2=>d=c/\z2=z1)):m z=some (.er c z1):=by
 obtain⟨r,e,h⟩:=h;cases r with
 |ok b z2=>exact h.elim|er d z2=>obtain⟨rfl,rfl⟩:=h;exact e
theorem J12{a:α}(h:m z=some (.ok a z1)):W m z Q E↔Q a z1:=by
 rw[W_e];constructor
 ·rintro ⟨r,e,q⟩;rw[h] at e;cases e;exact q
 ·exact λq=>⟨_,h,q⟩
theorem R42{c:Nat}(h:m z=some (.er c z1)):W m z Q E↔E c z1:=by
 rw[W_e];constructor
 ·rintro ⟨r,e,q⟩;rw[h] at e;cases e;exact q
 ·exact λq=>⟨_,h,q⟩
theorem w00{a:α}:W (M.ret a) z Q E↔Q a z:=J12 rfl
theorem s22:W (M.no:M α) z Q E↔False:=⟨λ⟨_,e,_⟩=>(by cases e),ý⟩
theorem l10{f:α->M β}{Q:β->Z->Prop}:W (M.bind m f) z Q E↔W m z (λa z1=>W (f a) z1 Q E) E:=by
 constructor
 ·rintro ⟨r,e,q⟩;unfold M.bind at e;split at e
  ·rename_i a z1 e1;exact⟨_,e1,r,e,q⟩
  ·rename_i c z1 e1;cases e;exact⟨_,e1,q⟩
  ·cases e
 ·rintro ⟨r,e,q⟩;cases r with
  |ok a z1 =>
   obtain⟨r,e2,q⟩:=q;refine⟨r,?_,q⟩;unfold M.bind;rw[e];exact e2
  |er c z1 =>
   refine⟨.er c z1,?_,q⟩;unfold M.bind;rw[e]
theorem R41:W (M.calm m) z Q E↔W m z Q NE:=by
 rw[W_e,W_e];unfold M.calm;constructor
 ·rintro ⟨r,e,q⟩;split at e
  ·rename_i a z1 e1;cases e;exact⟨_,e1,q⟩
  ·cases e
 ·rintro ⟨r,e,q⟩;cases r with
  |ok a z1=>exact⟨.ok a z1,by rw[e],q⟩|er c z1=>exact q.elim
theorem c22(h:∀ a z,Q a z↔Q' a z):W m z Q E↔W m z Q' E:=⟨λx=>x.mono (λa z=>(h a z).mp) λ_ _ h=>h,λx=>x.mono (λa z=>(h a z).mpr) λ_ _ h=>h⟩
theorem wR{a:α}:Q a z↔W (M.ret a) z Q E:=w00.symm
theorem wN:False↔W (M.no:M α) z Q E:=s22.symm
theorem wT{c:Prop}[Decidable c]{a b:M α}{A B:Prop}(h1:A↔W a z Q E)(h2:B↔W b z Q E):(if c then A else B)↔W (if c then a else b) z Q E:=by
 split <;> assumption
theorem wG{o:Option β}{f:β->M α}{K:β->Prop}(h:∀ a,K a↔W (f a) z Q E):Get o K↔W (M.bind (M.of o) f) z Q E:=by
 cases o with
 |none=>exact s22.symm|some a=>exact h a
theorem wB{m:M β}{f:β->M α}{V:Prop}{K:β->Z->Prop}(h1:V↔W m z K E)(h2:∀ a z1,K a z1↔W (f a) z1 Q E):V↔W (M.bind m f) z Q E:=h1.trans ((c22 h2).trans l10.symm)
end
def Wm{α:Type}(o:Option (R α))(Q:α->Z->Prop)(E:Nat->Z->Prop):Prop:=match o with
 |some (.ok a z1)=>Q a z1|some (.er c z1)=>E c z1|none=>False
theorem wM{α:Type}{m:M α}{z:Z}{Q:α->Z->Prop}{E:Nat->Z->Prop}:Wm (m z) Q E↔W m z Q E:=by
 rw[W_e];unfold Wm;cases h:m z with
 |none=>exact⟨ý,λ⟨_,e,_⟩=>by cases e⟩
 |some r =>
  refine⟨λq=>⟨r,rfl,?_⟩,λ⟨_,e,q⟩=>?_⟩
  ·cases r <;> exact q
  ·cases e;cases r <;> exact q
def Vr(o:Option (Option S))(z:Z)(Q:List S->Z->Prop)(_:Du Q NE:=()):Prop:=match o with
 |some (some s)=>Q [plS s] z|_=>False
def WV:FT->Ex->Env->Z->(List S->Z->Prop)->(Nat->Z->Prop)->Prop
 |F,.nil=>λρ z Q E=>Q [] z|F,.cons a r=>λρ z Q E=>WV F a ρ z (λx z1=>Get (one x) λs=>WV F r ρ z1 (λy z2=>Q (s::y) z2) E) E|F,.con x=>λρ z Q E=>Q [.d x] z|F,.gint g i=>λρ z Q E=>Q [.d (.int i)] z|F,.tup as=>λρ z Q E=>WV F as ρ z (λl z1=>Get (plA l) λds=>if ds.length<=most then Q [.d (.tup ds)] z1 else False) E|F,.lst as=>λρ z Q E=>WV F as ρ z (λl z1=>Get (plA l) λds=>if ds.length<=most then Q [.fr ds] z1 else False) E|F,.bin o a b=>λρ z Q E=>WV F a ρ z (λx z1=>Get (pl x) λdx=>WV F b ρ z1 (λy z2=>Get (pl y) λdy=>Get (B20 o dx dy) λs=>Q [s] z2) E) E|F,.cmp o a b=>λρ z Q E=>WV F a ρ z (λx z1=>Get (pl x) λdx=>WV F b ρ z1 (λy z2=>Get (pl y) λdy=>Get (B90 o dx dy) λt=>Q [.d (.bl t)] z2) E) E|F,.neg a=>λρ z Q E=>WV F a ρ z (λx z1=>Get ((pl x).bind asI) λi=>Q [.d (.int (-i))] z1) E|F,.not a=>λρ z Q E=>WV F a ρ z (λx z1=>Get ((pl x).bind asB) λb=>Q [.d (.bl !b)] z1) E|F,.and a b=>λρ z Q E=>WV F a ρ z (λx z1=>Get ((pl x).bind asB) λc=>if c then WV F b ρ z1 (λy z2=>Get ((pl y).bind asB) λc=>Q [.d (.bl c)] z2) E else Q [.d (.bl false)] z1) E|F,.or a b=>λρ z Q E=>WV F a ρ z (λx z1=>Get ((pl x).bind asB) λc=>if c then Q [.d (.bl true)] z1 else WV F b ρ z1 (λy z2=>Get ((pl y).bind asB) λc=>Q [.d (.bl c)] z2) E) E|F,.orT a b=>λρ z Q E=>WV F a ρ z (λx z1=>Get ((pl x).bind l22) λl=>if l.isEmpty then WV F b ρ z1 (λy z2=>Get ((pl y).bind l22) λl=>Q [.d (.tup l)] z2) NE else Q [.d (.tup l)] z1) NE|F,.ite c a b=>λρ z Q E=>WV F c ρ z (λx z1=>Get ((pl x).bind asB) λc=>if c then WV F a ρ z1 Q E else WV F b ρ z1 Q E) E|F,.ch o o' a b c=>λρ z Q E=>WV F a ρ z (λx z1=>Get (pl x) λdx=>WV F b ρ z1 (λy z2=>Get (pl y) λdy=>Get (B90 o dx dy) λt=>if t then WV F c ρ z2 (λw z3=>Get (pl w) λdw=>Get (B90 o' dy dw) λt=>Q [.d (.bl t)] z3) E else Q [.d (.bl false)] z2) E) E|F,.bf f as=>λρ z Q E=>WV F as ρ z (λl z1=>Get (plA l) λds=>Get (bfD f ds) λs=>Q [s] z1) E|F,.isi t a=>λρ z Q E=>WV F a ρ z (λx z1=>Get (pl x) λx=>Q [.d (.bl (e62 t x))] z1) E|F,.idx a i=>λρ z Q E=>WV F a ρ z (λx z1=>Get (pl x) λdx=>WV F i ρ z1 (λy z2=>Get (pl y) λdy=>Get (L40 dx dy) λr=>Q [.d r] z2) E) E|F,.sl a lo hi=>λρ z Q E=>WV F a ρ z (λx z1=>Get (pl x) λdx=>WV F lo ρ z1 (λu z2=>Get (t81 u) λu=>WV F hi ρ z2 (λv z3=>Get (t81 v) λv=>Get (slD dx u v) λs=>Q [s] z3) E) E) E|F,.call f as=>λρ z Q E=>WV F as ρ z (λl z1=>W (F false f (l.map plS)) z1 (λs z2=>Q [s] z2) E) E|F,.comp own capt p it src cond el=>λρ z Q E=>WV F src ρ z (λl z1=>Get ((plA l).bind (itD it)) λxs=>if xs.length<=most then W (turns (r60 (ev F cond) (ev F el) p (é own none++capt.map λi=>(ρ[i]?).getD none)) xs) z1 (λys z2=>Q [.fr ys] z2) NE else False) E|F,.lrng b as=>λρ z Q E=>WV F as ρ z (λl z1=>Get ((plA l).bind lrD) λxs=>Q [lrS b xs] z1) E|F,.callv i l as=>λρ z Q E=>Get (fnAt l ρ[i]?) λf=>WV F as ρ z (λm z1=>W (F false f (m.map plS)) z1 (λs z2=>Q [s] z2) E) E|F,.refd capt a=>λρ z Q E=>Get (J01 ρ capt) λss=>WV (λ_=>F true) a (ss.map some) z (λ_ _=>False) (λc z1=>if c < 12 then Q [.fr [.int c]] z1 else False)|F,.var i=>λρ z Q E=>Vr ρ[i]? z Q|F,.zget i k=>λρ z Q E=>Wm (t91 k ρ[i]? z) Q E
def WE(F:FT)(e:Ex)(ρ:Env)(z:Z)(Q:List S->Z->Prop)(E:Nat->Z->Prop)(_:Du Q E:=()):Prop:=WV F e ρ z Q E
def WX(F:FT)(tp:Bool):Sm->Env->Z->(O->Z->Prop)->(Nat->Z->Prop)->Prop
 |.nil=>λρ z Q E=>Q (.nx ρ) z
 |.seq s r=>λρ z Q E=>WX F tp s ρ z (λo z1=>match o with
  |.nx ρ=>WX F tp r ρ z1 Q E
  |.rt s=>Q (.rt s) z1) E
 |.set p e=>λρ z Q E=>WE F e ρ z (λl z1=>Get (one l) λs=>Get (D80 p s (i50 s ρ)) λρ'=>Q (.nx ρ') z1) E|.ret e=>λρ z Q E=>if h91 e then WE F e ρ z (λl z1=>Get ((one l).bind noS) λs=>Q (.rt s) z1) E else Get (J02 (R32 e ρ)) λs=>Q (.rt s) z|.iff c t e=>λρ z Q E=>WE F c ρ z (λx z1=>Get ((pl x).bind asB) λb=>if b then WX F tp t ρ z1 Q E else WX F tp e ρ z1 Q E) E|.exp e=>λρ z Q E=>WE F e ρ z (λl z1=>Get (one l) λ_=>Q (.nx ρ) z1) E|.rais c=>λρ z Q E=>E c z|.fr p it src b=>λρ z Q E=>WE F src ρ z (λl z1=>Get ((plA l).bind (itD it)) λxs=>W (X40 (λx ρ=>M.bind (M.of (e70 p x ρ)) λρ=>ex F tp b ρ) xs (u01 it src l ρ)) z1 Q E) E|.whl c b=>λρ z Q E=>W (P41 (ev F c) (ex F tp b) e72 ρ) z Q E|.frF i n n' b=>λρ z Q E=>W (X01 i (ex F tp b) [n,n'] ρ) z Q E|.zset i e=>λρ z Q E=>WE F e ρ z (λl z1=>Get ((pl l).bind asI) λv=>Wm (u31 ρ v ρ[i]? z1) Q E) E|.app i e=>λρ z Q E=>Get (ownAt ρ i) λxs=>WE F e ρ z (λl z1=>Get (pl l) λx=>if bare x=true/\xs.length < most then Q (.nx (ρ.set i (some (.fr (xs++[x]))))) z1 else False) E|.apop i j e=>λρ z Q E=>Get (ownAt ρ i) λxs=>Get (ownAt ρ j) λys=>WE F e ρ z (λl z1=>Get ((pl l).bind asI) λk=>Get (u11 ρ i j xs ys k) λo=>Q o z1) E|.newz i f as=>λρ z Q E=>WE F (.call f as) ρ z (λl z1=>Wm (u21 tp ρ i l) Q E) E|.aug o i e=>λρ z Q E=>Get ((ρ[i]?.getD none).bind plD) λy=>WE F e ρ z (λl z1=>Get ((pl l).bind asI) λx=>Get ((asI y).bind λy=>B20 o (.int y) (.int x)) λs=>Get (D80 (.v i) s (i50 s ρ)) λρ=>Q (.nx ρ) z1) E
def WS(F:FT)(tp:Bool)(s:Sm)(ρ:Env)(z:Z)(Q:O->Z->Prop)(E:Nat->Z->Prop)(_:Du Q E:=()):Prop:=WX F tp s ρ z Q E
theorem s32:W (ev F (.refd capt a) ρ) z Q E↔Get (J01 ρ capt) λss=>W (ev (j40 F) a (ss.map some)) z (λ_ _=>False) (λc z1=>if c < 12 then Q [.fr [.int c]] z1 else False):=by
 show W (l32 (J01 ρ capt) λρ'=>ev (j40 F) a ρ') z Q E↔_;rw[W_e];unfold l32;constructor
 ·rintro ⟨r,e,q⟩;split at e
  ·cases e
  ·rename_i ss h1;split at e
   ·rename_i c z1 h2;split at e
    ·rename_i h3;cases e;refine a00 h1 ⟨_,h2,?_⟩;dsimp only;rw[if_pos h3];exact q
    ·cases e
   ·cases e
 ·intro h;obtain⟨ss,h1,r,h2,q⟩:=j50 h;cases r with
  |ok a z1=>exact q.elim
  |er c z1 =>
   dsimp only at q;split at q
   ·rename_i h3;refine⟨.ok [.fr [.int c]] z1,?_,q⟩;rw[h1];dsimp only;rw[h2];dsimp only;rw[if_pos h3]
   ·exact q.elim
theorem s42:∀ (e:Ex) {F:FT}{ρ:Env}{z:Z}{Q:List S->Z->Prop}{E:Nat->Z->Prop},WV F e ρ z Q E↔W (ev F e ρ) z Q E:=by
 intro e
 induction e with
 |nil=>intros;exact wR|cons a r ha hr=>intros;exact wB ha λx z1=>wG λs=>wB hr λy z2=>wR
 |var i =>
  intro F ρ z Q E;show Vr ρ[i]? z Q↔W (match ρ[i]? with | some (some s)=>M.ret [plS s] | _=>M.no) z Q E
  generalize ρ[i]?=o
  match o with
  |some (some s)=>exact wR|some none=>exact wN|none=>exact wN
 |con x=>intros;exact wR|gint g i=>intros;exact wR|tup a ha=>intros;exact wB ha λl z1=>wG λds=>wT wR wN|lst a ha=>intros;exact wB ha λl z1=>wG λds=>wT wR wN|bin o a b ha hb=>intros;exact wB ha λx z1=>wG λdx=>wB hb λy z2=>wG λdy=>wG λs=>wR|cmp o a b ha hb=>intros;exact wB ha λx z1=>wG λdx=>wB hb λy z2=>wG λdy=>wG λs=>wR|neg a ha=>intros;exact wB ha λx z1=>wG λi=>wR|not a ha=>intros;exact wB ha λx z1=>wG λi=>wR|and a b ha hb=>intros;exact wB ha λx z1=>wG λc=>wT (wB hb λy z2=>wG λc=>wR) wR|or a b ha hb=>intros;exact wB ha λx z1=>wG λc=>wT wR (wB hb λy z2=>wG λc=>wR)|orT a b ha hb=>intros;refine Iff.trans ?_ R41.symm;exact wB ha λx z1=>wG λl=>wT (wB hb λy z2=>wG λl=>wR) wR|ite c a b hc ha hb=>intros;exact wB hc λx z1=>wG λc=>wT ha hb|ch o o' a b c ha hb hc=>intros;exact wB ha λx z1=>wG λdx=>wB hb λy z2=>wG λdy=>wG λt=>wT (wB hc λw z3=>wG λdw=>wG λt=>wR) wR|bf f a ha=>intros;exact wB ha λl z1=>wG λds=>wG λs=>wR|isi t a ha=>intros;exact wB ha λx z1=>wG λx=>wR|idx a i ha hi=>intros;exact wB ha λx z1=>wG λdx=>wB hi λy z2=>wG λdy=>wG λr=>wR|sl a l h ha hl hh=>intros;exact wB ha λx z1=>wG λdx=>wB hl λu z2=>wG λu=>wB hh λv z3=>wG λv=>wG λs=>wR|call f a ha=>intros;exact wB ha λl z1=>wB Ò3 λs z2=>wR|comp own capt p it src cond el hs hc he=>intros;exact wB hs λl z1=>wG λxs=>wT (wB R41.symm λys z2=>wR) wN|zget i k=>intros;exact wM (m:=t91 k _)|lrng b a ha=>intros;exact wB ha λl z1=>wG λxs=>wR|callv i l a ha=>intros;exact wG λf=>wB ha λl z1=>wB Ò3 λs z2=>wR|refd capt a ha=>intros;exact(z51 λss=>ha).trans s32.symm
theorem c30{e:Ex}{F:FT}{ρ:Env}{z:Z}{Q:List S->Z->Prop}{E:Nat->Z->Prop}:WE F e ρ z Q E↔W (ev F e ρ) z Q E:=s42 e
theorem F62{F:FT}{tp:Bool}{ρ:Env}{e:Ex}(h:h91 e=true):ex F tp (.ret e) ρ=M.bind (ev F e ρ) λl=>M.bind (M.of ((one l).bind noS)) λs=>M.ret (.rt s):=by
 cases e with
 |var i=>cases h
 |_=>rfl
theorem s52{F:FT}{tp:Bool}:∀ (s:Sm) {ρ:Env}{z:Z}{Q:O->Z->Prop}{E:Nat->Z->Prop},WX F tp s ρ z Q E↔W (ex F tp s ρ) z Q E:=by
 intro s
 induction s with
 |nil=>intros;exact wR
 |seq s r hs hr =>
  intros;refine wB hs λo z1=>?_;cases o with
  |nx ρ=>exact hr|rt s=>exact wR
 |set p e=>intros;exact wB c30 λl z1=>wG λs=>wG λρ'=>wR
 |ret e =>
  intro ρ z Q E;show(if h91 e then _ else _)↔_;cases h:h91 e with
  |true =>
   refine(iff_of_eq (if_pos rfl)).trans ?_;rw[F62 h];exact wB c30 λl z1=>wG λs=>wR
  |false =>
   cases e with
   |var i =>
    refine(iff_of_eq (if_neg Ò)).trans ?_;show Get (J02 ρ[i]?) _↔W (match ρ[i]? with | some (some s)=>M.bind (M.of (noS s)) λs=>M.ret (O.rt s) | _=>M.no) z Q E
    generalize ρ[i]?=o
    match o with
    |some (some s)=>exact wG λs=>wR|some none=>exact wN|none=>exact wN
   |_=>cases h
 |iff c t u ht hu=>intros;exact wB c30 λx z1=>wG λc=>wT ht hu|exp e=>intros;exact wB c30 λl z1=>wG λs=>wR|rais c=>intros;exact(R42 rfl).symm|fr p it src b ih=>intros;exact wB c30 λl z1=>wG λxs=>Ò3|whl c b ih=>intros;exact Ò3|frF i n n' b ih=>intros;exact Ò3|zset i e=>intros;exact wB c30 λl z1=>wG λv=>wM (m:=u31 _ v _)|app i e=>intros;exact wG λxs=>wB c30 λl z1=>wG λx=>wT wR wN|apop i j e=>intros;exact wG λxs=>wG λys=>wB c30 λl z1=>wG λk=>wG λo=>wR|newz i f as=>intros;exact wB c30 λl z1=>wM (m:=λ_=>u21 tp _ i l)|aug o i e=>intros;exact wG λy=>wB c30 λl z1=>wG λx=>wG λs=>wG λρ=>wR
theorem F10:WS F tp s ρ z Q E↔W (ex F tp s ρ) z Q E:=s52 s
theorem WS.mono{s:Sm}{F:FT}{tp:Bool}{ρ:Env}{z:Z}{Q Q':O->Z->Prop}{E E':Nat->Z->Prop}(h:WS F tp s ρ z Q E)(hq:∀ a z,Q a z->Q' a z)(he:∀ c z,E c z->E' c z):WS F tp s ρ z Q' E':=F10.mpr (W.mono (F10.mp h) hq he)
theorem c32(Mid:Env->Z->Prop)(h:WS F tp s ρ z (λo z1=>match o with
  |.nx ρ=>Mid ρ z1
  |.rt s=>Q (.rt s) z1) E) (h2:∀ ρ z,Mid ρ z->WS F tp r ρ z Q E):WS F tp (.seq s r) ρ z Q E:=by
 refine WS.mono (s:=s) h (λo z1 h=>?_) λ_ _ h=>h;cases o with
 |nx ρ=>exact h2 ρ z1 h|rt s=>exact h
section
variable {T:List Df}{k f ps ns:Nat}{b:Sm}{l:List S}{z:Z}{Q:S->Z->Prop}{E:Nat->Z->Prop}
theorem s62(h:T[f]?=some (.code ps ns b))(hl:l.length=ps)(hn:ps<=ns):W (a70 T (k + 3) f l) z Q E↔WS (S00 T (k + 2)) z.isNone b (start ns (l.map plS)) z (λo z1=>match o with
  |.nx _=>Q (.d .non) (L50 z z1)
  |.rt s=>Q s (L50 z z1)) λc z1=>E c (L50 z z1):=by
 refine Iff.trans ?_ F10.symm;rw[Z30,h];show W (λz=>if l.length=ps/\ps<=ns then(match ex (S00 T (k + 2)) z.isNone b (start ns (l.map plS)) z with
  |some (.ok (.nx _) z1)=>some (R.ok (S.d .non) (L50 z z1))|some (.ok (.rt s) z1)=>some (.ok s (L50 z z1))|some (.er c z1)=>some (.er c (L50 z z1))
  |none=>none) else none) z Q E↔_
 rw[W_e,W_e];constructor
 ·rintro ⟨r,e,q⟩;rw[if_pos ⟨hl,hn⟩] at e;split at e
  ·rename_i ρ z1 e1;cases e;exact⟨_,e1,q⟩
  ·rename_i s z1 e1;cases e;exact⟨_,e1,q⟩
  ·rename_i c z1 e1;cases e;exact⟨_,e1,q⟩
  ·cases e
 ·rintro ⟨r,e,q⟩;rw[if_pos ⟨hl,hn⟩,e]
  match r,q with
  |.ok (.nx ρ) z1,q=>exact⟨_,rfl,q⟩|.ok (.rt s) z1,q=>exact⟨_,rfl,q⟩|.er c z1,q=>exact⟨_,rfl,q⟩
end
section
variable {F:FT}{tp:Bool}{ρ:Env}{z:Z}{E:Nat->Z->Prop}
theorem b41{f:D->M (Option D)}{o:D->Option D}:∀ {xs:List D}{Q:List D->Z->Prop},(∀ x∈xs,f x z=some (.ok (o x) z))->(W (turns f xs) z Q E↔Q (xs.filterMap o) z)
 |[],Q,_=>w00
 |x::r,Q,h=>by
  show W (M.bind (f x) _) z Q E↔_;rw[l10,J12 (h x Ê),l10,b41 λy hy=>h y (É _ hy),w00];rw[À1];cases o x <;> rfl
theorem i01{f:D->M (Option D)}{I:Z->Prop}{P:D->D->Prop}:∀ {xs:List D}{z:Z}{Q:List D->Z->Prop},I z->(∀ x∈xs,∀ z,I z->W (f x) z (λo z1=>I z1/\∃ y,o=some y/\P x y) NE)->(∀ ys z1,I z1->Ä5 P xs ys->Q ys z1)->W (turns f xs) z Q E
 |[],z,Q,hi,_,q=>w00.mpr (q [] z hi .nil)
 |x::r,z,Q,hi,h,q=>by
  show W (M.bind (f x) _) z Q E;rw[l10];refine(h x Ê z hi).imp λo z1 ⟨hi1,y,e,hp⟩=>?_;subst e;rw[l10];refine i01 hi1 (λx' hx'=>h x' (É _ hx')) λys z2 hi2 hps=>?_;exact w00.mpr (q _ _ hi2 (.cons hp hps))
theorem R51(I:List D->Env->Z->Prop):∀ (xs:List D) {ρ:Env}{z:Z},I xs ρ z->(∀ x r ρ z,I (x::r) ρ z->W (f x ρ) z (λo z1=>match o with
  |.nx ρ=>I r ρ z1
  |.rt s=>Q (.rt s) z1) E)->(∀ ρ z,I [] ρ z->Q (.nx ρ) z)->W (X40 f xs ρ) z Q E
 |[],ρ,z,hi,_,q=>w00.mpr (q _ _ hi)
 |x::r,ρ,z,hi,h,q=>by
  show W (M.bind (f x ρ) _) z Q E;rw[l10];refine(h x r ρ z hi).mono (λo z1 ho=>?_) λ_ _ h=>h;cases o with
  |nx ρ1=>exact R51 I r ho h q|rt s=>exact w00.mpr ho
theorem s72{c:Env->M (List S)}{f:Env->M O}{Q:O->Z->Prop}(I:Nat->Env->Z->Prop)(step:∀ n ρ z,I n ρ z->W (c ρ) z (λx z1=>Get ((pl x).bind asB) λk=>if k then W (f ρ) z1 (λo z2=>match o with
  |.nx ρ=>∃ m,m < n/\I m ρ z2
  |.rt s=>Q (.rt s) z2) E else Q (.nx ρ) z1) E):∀ (n m:Nat) {ρ:Env}{z:Z},I n ρ z->n < m->W (P41 c f m ρ) z Q E:=by
 intro n
 induction n using Nat.strongRecOn with
 |ind n ih =>
  intro m ρ z hi hm;cases m with
  |zero=>omega
  |succ m =>
   show W (M.bind (c ρ) _) z Q E;rw[l10];refine(step n ρ z hi).mono (λx z1 h=>?_) λ_ _ h=>h;obtain⟨k,e,h⟩:=j50 h;refine(wG (K:=λk=>if k=true then W (M.bind (f ρ) _) z1 Q E else W (M.ret (O.nx ρ)) z1 Q E) λk=>wT Ò3 Ò3).mp (a00 e ?_);cases k with
   |true =>
    rw[if_pos rfl] at h ⊢;rw[l10];refine h.mono (λo z2 h=>?_) λ_ _ h=>h;cases o with
    |nx ρ1 =>
     obtain⟨j,hj,hi⟩:=h;exact ih j hj m hi ∅
    |rt s=>exact w00.mpr h
   |false =>
    rw[if_neg Ò] at h ⊢;exact w00.mpr h
end
mutual
noncomputable def cE:D->Ex
 |.tup l=>.tup (cEs l)|.lst l=>.lst (cEs l)|.int i=>if i < 0 then .neg (.con (.int (-i))) else .con (.int i)|x=>.con x
noncomputable def cEs:List D->Ex
 |[]=>.nil|x::r=>.cons (cE x) (cEs r)
end
mutual
noncomputable def okC:D->Bool
 |.tup l=>decide (l.length<=most)&&F72 l|.lst l=>decide (l.length<=most)&&F72 l|_=>true
noncomputable def F72:List D->Bool
 |[]=>true|x::r=>okC x&&F72 r
end
def cX(d:D)(_:okC d=true):Ex:=cE d
section
variable {F:FT}{ρ:Env}{z:Z}{Q:List S->Z->Prop}{E:Nat->Z->Prop}{a b c as:Ex}{p:Pat}{ρ0:Env}{x:D}{Q1:Option D->Z->Prop}
theorem z61:W (r60 (ev F .nil) (ev F a) p ρ0 x) z Q1 E↔Get (e70 p x ρ0) λρ=>WE F a ρ z (λy z1=>Get (pl y) λd=>Q1 (some d) z1) E :=
 (wG λρ=>show _↔W (M.bind (ev F a ρ) λy=>M.bind (M.of (pl y)) λy=>M.ret (some y)) z Q1 E from wB c30 λy z1=>wG λd=>wR).symm
theorem s82{l:List S}{m:M (List S)}{V:Prop}(h:V↔W (M.bind m λy=>M.bind (M.of (pl y)) λy=>M.ret (some y)) z Q1 E):(match l with | [s]=>Get (blS s) λb=>if b then V else Q1 none z | _=>l=[]/\V)↔W (match l with
  |[]=>M.bind m λy=>M.bind (M.of (pl y)) λy=>M.ret (some y)|[.d (.bl true)]=>M.bind m λy=>M.bind (M.of (pl y)) λy=>M.ret (some y)|[.d (.bl false)]=>M.ret none
  |_=>M.no) z Q1 E:=by
 match l with
 |[]=>exact⟨λx=>h.mp x.2,λx=>⟨rfl,h.mpr x⟩⟩|[.d (.bl true)]=>exact s12.trans ((iff_of_eq (if_pos rfl)).trans h)|[.d (.bl false)]=>exact s12.trans ((iff_of_eq (if_neg Ò)).trans wR)|[.d .non]=>exact wN|[.d (.int _)]=>exact wN|[.d (.str _)]=>exact wN|[.d (.tup _)]=>exact wN|[.d (.lst _)]=>exact wN|[.d .dct]=>exact wN|[.fr _]=>exact wN|[.z]=>exact wN|[.fn _]=>exact wN
 |s::_::_ =>
  refine⟨λx=>(by cases x.1),λx=>?_⟩
  cases s with
  |d y =>
   cases y with
   |bl b=>cases b <;> exact(s22.mp x).elim
   |_=>exact(s22.mp x).elim
  |_=>exact(s22.mp x).elim
theorem z71:W (r60 (ev F (.cons c .nil)) (ev F a) p ρ0 x) z Q1 E↔Get (e70 p x ρ0) λρ=>WE F c ρ z (λy z1=>Get (one y) λs=>Get (blS s) λb=>if b then WE F a ρ z1 (λy z2=>Get (pl y) λd=>Q1 (some d) z2) E else Q1 none z1) E:=by
 refine Iff.symm (wG λρ=>?_);refine wB (c30 (F:=F) (e:=.cons c .nil) (ρ:=ρ) (Q:=λl z1=>match l with | [s]=>Get (blS s) λb=>if b then WE F a ρ z1 (λy z2=>Get (pl y) λd=>Q1 (some d) z2) E else Q1 none z1 | _=>l=[]/\WE F a ρ z1 (λy z2=>Get (pl y) λd=>Q1 (some d) z2) E)) λl z1=>?_
 exact s82 (wB c30 λy z1=>wG λd=>wR)
end
section
variable {α:Type}{m:M α}{z z1:Z}{Q Q':α->Z->Prop}{E:Nat->Z->Prop}
theorem Wo(h:m z=some (.ok a z1))(q:Q a z1):W m z Q E:=⟨_,h,q⟩
theorem We(h:m z=some (.er c z1))(q:E c z1):W m z Q E:=⟨_,h,q⟩
end
theorem g00{T:List Df}{k f ps ns:Nat}{b:Sm}{l:List S}{z:Z}{Q:S->Z->Prop}{E:Nat->Z->Prop}(h:T[f]?=some (.code ps ns b))(hl:l.length=ps)(hn:ps<=ns)(q:WS (S00 T (k + 2)) z.isNone b (start ns (l.map plS)) z (λo z1=>match o with
  |.nx _=>Q (.d .non) (L50 z z1)
  |.rt s=>Q s (L50 z z1)) λc z1=>E c (L50 z z1)):W (a70 T (k + 3) f l) z Q E:=(s62 h hl hn).mpr q
theorem ib{b:Bool}{A B:Prop}(ht:b=true->A)(hf:b=false->B):if b=true then A else B:=by
 cases b with
 |true=>exact ht rfl|false=>exact hf rfl
theorem it{b:Bool}{A B:Prop}(h:b=true)(a:A):if b=true then A else B:=by rw[if_pos h];exact a
theorem ie{b:Bool}{A B:Prop}(h:b=false)(a:B):if b=true then A else B:=by rw[h];exact a
theorem ip{c:Prop}[Decidable c]{A B:Prop}(h:c)(a:A):if c then A else B:=by rw[if_pos h];exact a
theorem d20(z:Z):L50 z z=z:=by cases z <;> rfl
theorem sd{s t:S}{z:Z}(h:s=t):s=t/\L50 z z=z:=⟨h,d20 z⟩
theorem sb(h:b=c):S.d (.bl b)=S.d (.bl c)/\L50 z z=z:=sd (by rw[h])
section
variable {F:FT}{tp:Bool}{z:Z}{E:Nat->Z->Prop}{p:Pat}
theorem o70(I:List D->Env->Z->Prop)(xs:List D)(hi:I xs ρ z)(h:∀ x r ρ z,I (x::r) ρ z->Get (e70 p x ρ) λρ=>WS F tp b ρ z (λo z1=>match o with
  |.nx ρ=>I r ρ z1
  |.rt s=>Q (.rt s) z1) E) (q:∀ ρ z,I [] ρ z->Q (.nx ρ) z):W (X40 (λx ρ=>M.bind (M.of (e70 p x ρ)) λρ=>ex F tp b ρ) xs ρ) z Q E :=
 R51 I xs hi (λx r ρ z hi=>(wG λρ=>F10).mp (h x r ρ z hi)) q
theorem c42(I:Nat->Env->Z->Prop)(n:Nat)(hi:I n ρ z)(hn:n < e72)(h:∀ n ρ z,I n ρ z->WE F c ρ z (λx z1=>Get ((pl x).bind asB) λk=>if k then WS F tp b ρ z1 (λo z2=>match o with
  |.nx ρ=>∃ m,m < n/\I m ρ z2
  |.rt s=>Q (.rt s) z2) E else Q (.nx ρ) z1) E):W (P41 (ev F c) (ex F tp b) e72 ρ) z Q E:=by
 refine s72 I (λn ρ z hi=>?_) n e72 hi hn;refine(c30.mp (h n ρ z hi)).mono (λx z1 h=>?_) λ_ _ h=>h;obtain⟨k,e,h⟩:=j50 h;refine a00 e ?_;cases k with
 |true=>exact F10.mp h|false=>exact h
variable {ρ0:Env}{cond el:Ex}{xs:List D}{Q:List D->Z->Prop}
theorem i11(o:D->D)(h:∀ x∈xs,Get (e70 p x ρ0) λρ=>WE F el ρ z (λy z1=>Get (pl y) λd=>d=o x/\z1=z) NE)(q:Q (xs.map o) z):W (turns (r60 (ev F .nil) (ev F el) p ρ0) xs) z Q E:=by
 refine(b41 (o:=λx=>some (o x)) λx hx=>?_).mpr ?_
 ·refine W.ok (z61.mpr ?_);obtain⟨ρ,e,h⟩:=j50 (h x hx);refine a00 e (c30.mpr ((c30.mp h).imp λy z1 h=>?_));obtain⟨d,e,rfl,rfl⟩:=j50 h;exact a00 e ⟨rfl,rfl⟩
 ·rw[show xs.filterMap (λx=>some (o x))=xs.map o from congrFun (List.filterMap_eq_map (f:=o)) xs];exact q
theorem F82{c:D->Bool}{o:D->D}:∀ xs:List D,xs.filterMap (λx=>if c x then some (o x) else none)=(xs.filter c).map o
 |[]=>rfl
 |x::r=>by
  rw[À1,filter_cons];cases hc:c x with
  |false=>exact F82 r|true=>exact congrArg (o x::·) (F82 r)
theorem J22(c:D->Bool)(o:D->D)(h:∀ x∈xs,Get (e70 p x ρ0) λρ=>WE F cond ρ z (λy z1=>Get (one y) λs=>s=.d (.bl (c x))/\z1=z/\(c x=true->WE F el ρ z (λy z1=>Get (pl y) λd=>d=o x/\z1=z) NE)) NE)(q:Q ((xs.filter c).map o) z):W (turns (r60 (ev F (.cons cond .nil)) (ev F el) p ρ0) xs) z Q E:=by
 refine(b41 (o:=λx=>if c x then some (o x) else none) λx hx=>?_).mpr ?_
 ·refine W.ok (z71.mpr ?_);obtain⟨ρ,e,h⟩:=j50 (h x hx);refine a00 e (c30.mpr ((c30.mp h).imp λy z1 h=>?_));obtain⟨s,e,rfl,rfl,h⟩:=j50 h;refine a00 e ?_;show if c x=true then _ else _;cases hc:c x with
  |false=>exact⟨rfl,rfl⟩
  |true =>
   refine c30.mpr ((c30.mp (h hc)).imp λy z1 h=>?_);obtain⟨d,e,rfl,rfl⟩:=j50 h;exact a00 e ⟨rfl,rfl⟩
 ·rw[F82];exact q
theorem s92{I:Z->Prop}(o:D->D):∀ {xs:List D}{z:Z}{Q:List D->Z->Prop},I z->(∀ x∈xs,∀ z,I z->Get (e70 p x ρ0) λρ=>WE F cond ρ z (λy z1=>Get (one y) λs=>I z1/\∃ b,s=.d (.bl b)/\(b=true->WE F el ρ z1 (λy z2=>Get (pl y) λd=>d=o x/\z2=z1) NE)) NE) ->
  (∀ ys z1,I z1->ys.Sublist (xs.map o)->Q ys z1)->W (turns (r60 (ev F (.cons cond .nil)) (ev F el) p ρ0) xs) z Q E
 |[],z,Q,hi,_,q=>w00.mpr (q [] z hi .slnil)
 |x::r,z,Q,hi,h,q=>by
  show W (M.bind (r60 _ _ p ρ0 x) _) z Q E;refine l10.mpr (z71.mpr ?_);obtain⟨ρ,e,h0⟩:=j50 (h x Ê z hi);refine a00 e (c30.mpr ((c30.mp h0).imp λy z1 h1=>?_));obtain⟨s,e,hi1,b,rfl,h2⟩:=j50 h1;refine a00 e ?_;show if b=true then _ else _;have hr:=λ{Q:List D->Z->Prop} (q:∀ ys z1,I z1->ys.Sublist (r.map o)->Q ys z1)=>s92 o (z:=z1) hi1 (λy hy=>h y (É _ hy)) q;cases b with
  |false=>exact l10.mpr (hr λys z2 hi2 hs=>w00.mpr (q ys z2 hi2 (hs.cons _)))
  |true =>
   refine c30.mpr ((c30.mp (h2 rfl)).imp λy z2 h3=>?_);obtain⟨d,e,rfl,rfl⟩:=j50 h3;exact a00 e (l10.mpr (hr λys z2 hi2 hs=>w00.mpr (q _ z2 hi2 (hs.cons_cons _))))
theorem R52{I:Z->Prop}{P:D->D->Prop}(hi:I z)(h:∀ x∈xs,∀ z,I z->Get (e70 p x ρ0) λρ=>WE F el ρ z (λy z1=>Get (pl y) λd=>I z1/\P x d) NE)(q:∀ ys z1,I z1->Ä5 P xs ys->Q ys z1):W (turns (r60 (ev F .nil) (ev F el) p ρ0) xs) z Q E:=by
 refine i01 hi (λx hx z hz=>z61.mpr ?_) q;obtain⟨ρ,e,h⟩:=j50 (h x hx z hz);refine a00 e (c30.mpr ((c30.mp h).imp λy z1 h=>?_));obtain⟨d,e,h⟩:=j50 h;exact a00 e ⟨h.1,d,rfl,h.2⟩
end
theorem R61{s:S}{ρ:Env}(h:R60 s=true):i50 s ρ=ρ:=by
 unfold i50;rw[R70,h];rfl
theorem t02{F:FT}{tp:Bool}{p:Pat}{e:Ex}{r:Sm}{ρ:Env}{z:Z}{Q:O->Z->Prop}{E:Nat->Z->Prop}(s:S)(ρ':Env)(he:WE F e ρ z (λl z1=>Get (one l) λt=>t=s/\z1=z) NE)(hb:D80 p s (i50 s ρ)=some ρ')(q:WS F tp r ρ' z Q E):WS F tp (.seq (.set p e) r) ρ z Q E:=by
 show WE F e ρ z (λl z1=>Get (one l) λs=>Get (D80 p s (i50 s ρ)) λρ'=>WX F tp r ρ' z1 Q E) E;refine c30.mpr ((c30.mp he).imp λl z1 h=>?_);obtain⟨t,e,rfl,rfl⟩:=j50 h;exact a00 e (a00 hb q)
end Q
namespace K3
open PySem L2 Q
def top(i:Nat):Stmt:=õ.main.body.getD i (.Pass ⟨0,0,0,0⟩)
def nums:List (Str × Int):=[(("MOST_PLACES":Str),(6:Int)),(("MOST_TIES":Str),(8:Int)),(("MOST_BOTTOM":Str),(1000:Int))]
abbrev v0:Ex:=.var 0
abbrev v1:Ex:=.var 1
abbrev v2:Ex:=.var 2
abbrev v3:Ex:=.var 3
abbrev v4:Ex:=.var 4
abbrev v5:Ex:=.var 5
abbrev v6:Ex:=.var 6
abbrev v7:Ex:=.var 7
abbrev v8:Ex:=.var 8
abbrev v9:Ex:=.var 9
abbrev v12:Ex:=.var 12
abbrev n0:Ex:=.con (.int 0)
abbrev n1:Ex:=.con (.int 1)
abbrev n2:Ex:=.con (.int 2)
abbrev c1(a:Ex):Ex:=.cons a .nil
abbrev c2(a b:Ex):Ex:=.cons a (.cons b .nil)
abbrev c3(a b c:Ex):Ex:=.cons a (.cons b (.cons c .nil))
abbrev c4(a b c d:Ex):Ex:=.cons a (.cons b (.cons c (.cons d .nil)))
abbrev c5(a b c d e:Ex):Ex:=.cons a (.cons b (.cons c (.cons d (.cons e .nil))))
abbrev s1(a:Sm):Sm:=.seq a .nil
abbrev p2(a b:Pat):Pat:=.tup (.cons a (.cons b .nil))
abbrev g80:Nat:=0
abbrev M60:Nat:=1
abbrev R71:Nat:=2
abbrev z81:Nat:=3
abbrev T50:Nat:=4
abbrev n40:Nat:=5
abbrev l20:Nat:=6
abbrev q90:Nat:=7
abbrev i21:Nat:=8
abbrev H90:Nat:=9
abbrev i31:Nat:=10
abbrev z91:Nat:=11
abbrev l30:Nat:=12
abbrev m20:Nat:=13
abbrev g20:Nat:=14
abbrev I00:Nat:=15
abbrev z70:Nat:=16
abbrev F20:Nat:=17
abbrev m30:Nat:=18
abbrev e90:Nat:=19
abbrev m40:Nat:=20
abbrev I10:Nat:=21
abbrev F30:Nat:=22
abbrev w10:Nat:=23
abbrev T60:Nat:=24
abbrev j60:Nat:=25
abbrev A01:Nat:=26
abbrev d90:Nat:=27
abbrev e40:Nat:=28
abbrev F40:Nat:=29
abbrev z80:Nat:=30
abbrev F50:Nat:=31
abbrev g30:Nat:=32
abbrev z90:Nat:=33
abbrev F60:Nat:=34
abbrev s40:Nat:=35
abbrev A00:Nat:=36
abbrev a60:Nat:=37
abbrev A10:Nat:=38
abbrev I20:Nat:=39
abbrev w20:Nat:=40
abbrev w30:Nat:=41
abbrev s50:Nat:=42
abbrev e20:Nat:=43
abbrev l40:Nat:=44
abbrev s60:Nat:=45
abbrev j70:Nat:=46
abbrev A20:Nat:=47
abbrev A30:Nat:=48
abbrev t12:Nat:=49
def g90:Sm:=(.seq (.whl (.cmp .gt v1 n0) (s1 (.set (p2 (.v 0) (.v 1)) (.tup (c2 v1 (.bin .mod v0 v1)))))) (s1 (.ret v0)))
def M70:Sm:=(.seq (.set (.v 2) (.call g80 (c2 v0 v1))) (s1 (.ret (.tup (c2 (.bin .fdiv v0 v2) (.bin .fdiv v1 v2))))))
def A11:Sm:=(s1 (.ret (.call M60 (c2 (.bin .add (.bin .mul (.idx v0 n0) (.idx v1 n1)) (.bin .mul (.idx v1 n0) (.idx v0 n1))) (.bin .mul (.idx v0 n1) (.idx v1 n1))))))
def b51:Sm:=(s1 (.ret (.call R71 (c2 v0 (.tup (c2 (.neg (.idx v1 n0)) (.idx v1 n1)))))))
def F70:Sm:=(s1 (.ret (.cmp .lt (.bin .mul (.idx v0 n0) (.idx v1 n1)) (.bin .mul (.idx v1 n0) (.idx v0 n1)))))
def h00:Sm:=(.seq (.set (.v 1) (.con .non)) (.seq (.fr (p2 (.v 2) (.v 3)) .enum (c1 v0) (s1 (.iff (.or (.cmp .is v1 (.con .non)) (.call T50 (c2 (.idx v0 v1) v3))) (s1 (.set (.v 1) v2)) .nil))) (s1 (.ret v1))))
def I30:Sm:=(s1 (.ret (.and (.isi .int v0) (.not (.isi .bool v0)))))
def x70:Sm:=(s1 (.ret (.and (.call l20 (c1 v0)) (.ch .le .lt n0 v0 v1))))
def M80:Sm:=(.seq (.iff (.or (.not (.isi .tuple v0)) (.cmp .ne (.bf .len (c1 v0)) n2)) (s1 (.ret (.con (.bl false)))) .nil) (.seq (.set (p2 (.v 2) (.v 3)) v0) (s1 (.ret (.and (.call q90 (c2 v2 v1)) (.and (.call q90 (c2 v3 v1)) (.cmp .lt v2 v3)))))))
def x80:Sm:=(.seq (.iff (.or (.not (.isi .tuple v0)) (.cmp .gt (.bf .len (c1 v0)) (.gint "MOST_TIES" 8))) (s1 (.ret (.con (.bl false)))) .nil) (.seq (.iff (.not (.bf .all (c1 (.comp 1 [1] (.v 0) .seq (c1 v0) .nil (.call i21 (c2 v0 v1)))))) (s1 (.ret (.con (.bl false)))) .nil) (s1 (.ret (.bf .all (c1 (.comp 2 [] (p2 (.v 0) (.v 1)) .zip (c2 v0 (.sl v0 (c1 n1) .nil)) .nil (.cmp .le v0 v1))))))))
def M90:Sm:=(.seq (.iff (.or (.not (.isi .tuple v0)) (.cmp .ne (.bf .len (c1 v0)) n2)) (s1 (.ret (.con (.bl false)))) .nil) (.seq (.set (p2 (.v 1) (.v 2)) v0) (s1 (.ret (.and (.call l20 (c1 v1)) (.and (.ch .le .le n1 v1 (.gint "MOST_PLACES" 6)) (.call H90 (c2 v2 v1))))))))
def b61:Sm:=(s1 (.ret (.bf .all (c1 (.comp 2 [] (p2 (.v 0) (.v 1)) .zip (c2 v0 (.sl v0 (c1 n1) .nil)) .nil (.cmp .lt v0 v1))))))
def f60:Sm:=(.seq (.iff (.not (.isi .tuple v0)) (s1 (.ret (.con (.bl false)))) .nil) (s1 (.ret (.and (.bf .all (c1 (.comp 1 [1] (.v 0) .seq (c1 v0) .nil (.call q90 (c2 v0 v1))))) (.call z91 (c1 v0))))))
def m50:Sm:=(s1 (.iff (.not (.call i31 (c1 v0))) (s1 (.rais 0)) .nil))
def g40:Sm:=(s1 (.iff (.or (.not (.call l30 (c2 v1 (.idx v0 n0)))) (.cmp .eq (.bf .len (c1 v1)) n0)) (s1 (.rais 2)) .nil))
def x90:Sm:=(.seq (.set (p2 (.v 2) (.v 3)) v0) (.seq (.set (.v 4) (.lrng false (c1 v2))) (.seq (.fr (.v 5) .seq (c1 v1) (.seq (.set (p2 (.v 6) (.v 7)) (.idx v3 v5)) (.seq (.set (.v 8) (.idx v4 v6)) (.seq (.set (.v 9) (.idx v4 v7)) (s1 (.set (.v 4) (.comp 1 [8,9] (.v 0) .seq (c1 v4) .nil (.ite (.cmp .eq v0 v2) v1 v0)))))))) (s1 (.ret v4)))))
def o80:Sm:=(.seq (.set (.v 3) (.call I00 (c2 v0 v1))) (s1 (.ret (.bf .all (c1 (.comp 1 [2,3] (.v 0) .seq (c1 v2) .nil (.cmp .eq (.idx v2 v0) (.idx v2 (.idx v1 n0)))))))))
def t40:Sm:=(.seq (.iff (.or (.not (.isi .tuple v0)) (.cmp .ne (.bf .len (c1 v0)) n2)) (s1 (.ret (.con (.bl false)))) .nil) (.seq (.set (p2 (.v 1) (.v 2)) v0) (.seq (.iff (.or (.not (.call l20 (c1 v1))) (.not (.call l20 (c1 v2)))) (s1 (.ret (.con (.bl false)))) .nil) (.seq (.iff (.or (.not (.ch .le .le n1 v2 (.gint "MOST_BOTTOM" 1000))) (.not (.ch .le .le n0 v1 v2))) (s1 (.ret (.con (.bl false)))) .nil) (s1 (.ret (.cmp .eq (.call g80 (c2 v1 v2)) n1)))))))
def i00:Sm:=(.seq (.exp (.call m20 (c1 v0))) (.seq (.iff (.or (.not (.isi .tuple v1)) (.cmp .ne (.bf .len (c1 v1)) (.bf .len (c1 (.idx v0 n1))))) (s1 (.ret (.con (.bl false)))) .nil) (s1 (.ret (.bf .all (c1 (.comp 1 [] (.v 0) .seq (c1 v1) .nil (.call F20 (c1 v0)))))))))
def d60:Sm:=(s1 (.iff (.not (.call m30 (c2 v0 v1))) (s1 (.rais 6)) .nil))
def m60:Sm:=(s1 (.ret (.bin .add (.bin .add (.sl v0 .nil (c1 v1)) (.tup (c1 v2))) (.sl v0 (c1 (.bin .add v1 n1)) .nil))))
def r00:Sm:=(.seq (.set (.v 1) (cX (.lst [(.tup [])]) (-0))) (.seq (.fr (.v 2) .rng1 (c1 (.bf .len (c1 (.idx v0 n1)))) (s1 (.set (.v 1) (.bin .add v1 (.comp 1 [2] (.v 0) .seq (c1 v1) .nil (.bin .add v0 (.tup (c1 v1)))))))) (s1 (.ret (.bf .sorted (c1 v1))))))
def t50:Sm:=(.seq (.exp (.call m20 (c1 v0))) (.seq (.exp (.call g20 (c2 v0 v1))) (s1 (.ret (.comp 1 [0,1] (.v 0) .seq (c1 (.call I10 (c1 v0))) (c1 (.call z70 (c3 v1 v0 v2))) v0)))))
def m70:Sm:=(.seq (.set (.v 1) n1) (.seq (.fr (.v 2) .seq (c1 v0) (s1 (.aug .mul 1 (.idx v2 n1)))) (s1 (.ret v1))))
def F80:Sm:=(.seq (.set (.v 2) n1) (.seq (.fr (p2 (.v 3) (p2 (.v 4) (.v 5))) .enum (c1 v0) (s1 (.aug .mul 2 (.ite (.cmp .mem v3 v1) v4 (.bin .sub v5 v4))))) (s1 (.ret v2))))
def o90:Sm:=(s1 (.ret (.call M60 (c2 (.bf .sum (c1 (.comp 1 [0] (.v 0) .seq (c1 v1) .nil (.call T60 (c2 v1 v0))))) (.call w10 (c1 v0))))))
def b71:Sm:=(.seq (.set (.v 3) (.call j60 (c2 (.call m40 (c3 v0 v2 (cX (.tup [(.int 1),(.int 1)]) (-0)))) v1))) (s1 (.ret (.call z81 (c2 v3 (.call j60 (c2 (.call m40 (c3 v0 v2 (cX (.tup [(.int 0),(.int 1)]) (-0)))) v1)))))))
def r10:Sm:=(.seq (.exp (.call e90 (c2 v0 v1))) (.seq (.exp (.call g20 (c2 v0 v2))) (.seq (.set (.v 3) (.call F30 (c2 v0 v2))) (s1 (.ret (.comp 1 [1,3] (.v 0) .rng1 (c1 (.bf .len (c1 v1))) .nil (.call A01 (c3 v1 v2 v0))))))))
def r20:Sm:=(s1 (.ret (.call n40 (c1 (.call d90 (c3 v0 v1 v2))))))
def t60:Sm:=(.seq (.set (.v 1) (cX (.lst [(.tup [])]) (-0))) (.seq (.fr (.v 2) .rng1 (c1 (.bf .len (c1 (.idx v0 n1)))) (s1 (.set (.v 1) (.bin .add v1 (.comp 1 [2] (.v 0) .seq (c1 v1) .nil (.bin .add v0 (.tup (c1 v1)))))))) (s1 (.ret v1))))
def p00:Sm:=(.seq (.set (.v 2) (.lrng false (c1 (.idx v0 n0)))) (.seq (.fr (.v 3) .seq (c1 v1) (.seq (.set (p2 (.v 4) (.v 5)) (.idx (.idx v0 n1) v3)) (.seq (.set (p2 (.v 6) (.v 7)) (.tup (c2 (.idx v2 v4) (.idx v2 v5)))) (s1 (.set (.v 2) (.comp 1 [6,7] (.v 0) .seq (c1 v2) .nil (.ite (.cmp .eq v0 v2) v1 v0))))))) (s1 (.ret v2))))
def t70:Sm:=(.seq (.set (.v 3) (.call z80 (c2 v0 v1))) (s1 (.ret (.cmp .eq (.comp 1 [2,3] (.v 0) .seq (c1 v2) (c1 (.cmp .ne (.idx v2 v0) (.idx v2 (.idx v1 n0)))) v0) (.lst .nil)))))
def k30:Sm:=(.seq (.set (p2 (.v 2) (.v 3)) (.tup (c2 (.bf .abs (c1 v0)) v1))) (.seq (.whl (.cmp .ne v3 n0) (s1 (.set (p2 (.v 2) (.v 3)) (.tup (c2 v3 (.bin .mod v2 v3)))))) (s1 (.ret (.tup (c2 (.bin .fdiv v0 v2) (.bin .fdiv v1 v2)))))))
def p10:Sm:=(.seq (.set (.v 3) n0) (.seq (.fr (.v 4) .seq (c1 (.call F40 (c1 v0))) (s1 (.iff (.call F50 (c3 v0 v4 v2)) (.seq (.set (.v 5) n1) (.seq (.fr (.v 6) .rng1 (c1 (.bf .len (c1 v1))) (.seq (.set (p2 (.v 7) (.v 8)) (.idx v1 v6)) (s1 (.set (.v 5) (.bin .mul v5 (.ite (.cmp .mem v6 v4) v7 (.bin .sub v8 v7))))))) (s1 (.set (.v 3) (.bin .add v3 v5))))) .nil))) (.seq (.set (.v 8) n1) (.seq (.fr (.v 9) .seq (c1 v1) (s1 (.set (.v 8) (.bin .mul v8 (.idx v9 n1))))) (s1 (.ret (.call g30 (c2 v3 v8))))))))
def t80:Sm:=(s1 (.ret (.call g30 (c2 (.bin .add (.bin .mul (.idx v0 n0) (.idx v1 n1)) (.bin .mul (.idx v1 n0) (.idx v0 n1))) (.bin .mul (.idx v0 n1) (.idx v1 n1))))))
def g50:Sm:=(.seq (.iff (.cmp .lt v1 (.bf .len (c1 v0))) (s1 (.ret (.idx v0 v1))) .nil) (s1 (.ret n0)))
def j80:Sm:=(.seq (.set (.v 2) (.call s40 (c2 v0 v1))) (.seq (.iff (.cmp .ge v2 (.bin .pow (.con (.int 10)) (.con (.int 18)))) (s1 (.ret (.lst (c2 (.bin .sub v2 (.bin .pow (.con (.int 10)) (.con (.int 18)))) (.con (.bl true)))))) .nil) (s1 (.ret (.lst (c2 (.bin .mod v2 (.con (.int 2147483647))) (.con (.bl false))))))))
def t90:Sm:=(.seq (.iff (.zget 0 1) (.seq (.set (.v 2) (.bin .mod (.zget 0 0) v1)) (.seq (.zset 0 (.bin .fdiv (.zget 0 0) v1)) (s1 (.ret v2)))) .nil) (.seq (.zset 0 (.bin .mod (.bin .add (.bin .mul (.zget 0 0) (.con (.int 48271))) (.con (.int 29))) (.con (.int 2147483647)))) (.seq (.set (.v 3) (.bin .mod (.bin .add (.bin .add (.bin .mul (.zget 0 0) (.zget 0 0)) (.bin .mul (.con (.int 39373)) (.zget 0 0))) (.con (.int 7))) (.con (.int 2147483629)))) (.seq (.set (.v 3) (.bin .mod (.bin .add (.bin .mul v3 v3) (.bin .mul (.con (.int 16807)) v3)) (.con (.int 2147483587)))) (s1 (.ret (.bin .mod (.bin .fdiv v3 (.con (.int 8))) v1)))))))
def p20:Sm:=(.seq (.set (.v 2) (.lrng false (c1 v1))) (.seq (.set (.v 3) (.lst .nil)) (.seq (.whl (.cmp .ne v2 (.lst .nil)) (s1 (.apop 3 2 (.call a60 (c2 v0 (.bf .len (c1 v2))))))) (s1 (.ret (.bf .tuple (c1 v3)))))))
def y00:Sm:=(.seq (.set (.v 2) (.idx (cX (.lst [(.int 5),(.int 4),(.int 6),(.int 3),(.int 4),(.int 2),(.int 6),(.int 1)]) (-0)) (.call a60 (c2 v0 (.con (.int 8)))))) (.seq (.set (.v 3) (.call A10 (c2 v0 v2))) (.seq (.set (.v 4) (.call a60 (c2 v0 (.con (.int 6))))) (.seq (.set (.v 5) (.lst .nil)) (.seq (.fr (.v 6) .rng2 (c2 n1 v2) (s1 (.app 5 (.tup (c2 (.idx v3 v6) (.idx v3 (.idx (.lst (.cons (.bin .sub v6 n1) (c5 (.bin .sub v6 n1) n0 (.bin .fdiv v6 n2) (.bin .sub v6 n1) n0))) v4))))))) (.seq (.iff (.and (.cmp .eq v4 n0) (.cmp .gt v2 n2)) (s1 (.app 5 (.tup (c2 (.idx v3 n0) (.idx v3 (.bin .sub v2 n1)))))) .nil) (.seq (.iff (.cmp .eq v4 (.con (.int 4))) (s1 (.set (.v 5) (.sl v5 (c1 n1) .nil))) .nil) (.seq (.fr (.v 7) .rng1 (c1 (.call a60 (c2 v0 (.con (.int 5))))) (.seq (.set (p2 (.v 8) (.v 9)) (.tup (c2 (.call a60 (c2 v0 v2)) (.call a60 (c2 v0 v2))))) (s1 (.iff (.cmp .ne v8 v9) (s1 (.app 5 (.tup (c2 v8 v9)))) .nil)))) (.seq (.iff (.and (.cmp .ne v5 (.lst .nil)) (.cmp .eq (.call a60 (c2 v0 (.con (.int 3)))) n0)) (s1 (.app 5 (.idx v5 (.call a60 (c2 v0 (.bf .len (c1 v5))))))) .nil) (.seq (.set (.v 5) (.sl v5 .nil (c1 v1))) (s1 (.ret (.tup (c2 v2 (.bf .tuple (c1 (.bf .sorted (c1 (.comp 2 [] (p2 (.v 0) (.v 1)) .seq (c1 v5) .nil (.tup (c2 (.bf .min (c2 v0 v1)) (.bf .max (c2 v0 v1)))))))))))))))))))))))
def m80:Sm:=(.seq (.set (.v 2) (.bf .tuple (c1 (.comp 1 [0] (.v 0) .rng1 (c1 (.idx v1 n0)) (c1 (.cmp .eq (.call a60 (c2 v1 n2)) n0)) v0)))) (s1 (.ret (.idx (.lst (c3 (.orT v2 (cX (.tup [(.int 0)]) (-0))) (.lrng true (c1 (.idx v1 n0))) (.orT v2 (.tup (c1 (.bin .sub (.idx v1 n0) n1)))))) (.call a60 (c2 v0 (.con (.int 3))))))))
def m90:Sm:=(.seq (.set (.v 1) (.call a60 (c2 v0 (.con (.int 8))))) (.seq (.iff (.cmp .lt v1 n2) (s1 (.ret (.idx (cX (.lst [(.tup [(.int 0),(.int 1)]),(.tup [(.int 1),(.int 1)])]) (-0)) v1))) .nil) (.seq (.set (.v 2) (.idx (.lst (.cons n2 (c5 (.con (.int 3)) (.con (.int 4)) (.bin .add n1 (.call a60 (c2 v0 (.con (.int 12))))) (.bin .add n1 (.call a60 (c2 v0 (.con (.int 1000))))) (.con (.int 1000))))) (.bin .sub v1 n2))) (s1 (.ret (.call g30 (c2 (.call a60 (c2 v0 (.bin .add v2 n1))) v2)))))))
def k40:Sm:=(s1 (.ret (.bf .tuple (c1 (.comp 1 [0] (.v 0) .seq (c1 (.idx v1 n1)) .nil (.call w30 (c1 v1)))))))
def i80:Sm:=(.seq (.iff (.isi .seq v1) (.seq (.iff (.or (.cmp .ne (.isi .tuple v0) (.isi .tuple v1)) (.cmp .ne (.isi .list v0) (.isi .list v1))) (s1 (.ret (.con (.bl false)))) .nil) (.seq (.iff (.cmp .ne (.bf .len (c1 v0)) (.bf .len (c1 v1))) (s1 (.ret (.con (.bl false)))) .nil) (s1 (.ret (.bf .all (c1 (.comp 2 [] (p2 (.v 0) (.v 1)) .zip (c2 v0 v1) .nil (.call e20 (c2 v0 v1))))))))) .nil) (s1 (.ret (.and (.cmp .eq v0 v1) (.cmp .eq (.isi .bool v0) (.isi .bool v1))))))
def f70:Sm:=(.seq (.set (.v 2) (.lst (.cons (.tup .nil) (.cons (.con .non) (.cons (.tup (c1 (.idx v1 n0))) (.cons (cX (.tup [(.int (-1))]) (-0)) (.cons (cX (.tup [(.int 0),(.int 0)]) (-0)) (.cons (cX (.lst [(.int 0)]) (-0)) (.cons (.con .dct) (.cons n0 (c5 (cX (.tup [(.bl true)]) (-0)) (cX (.tup [(.str "0")]) (-0)) (cX (.tup [.non]) (-0)) (.tup (c2 (.idx v1 n0) n0)) (cX (.tup [(.tup [(.int 0)])]) (-0))))))))))))) (s1 (.ret (.idx v2 (.call a60 (c2 v0 (.con (.int 13))))))))
def k50:Sm:=(.seq (.set (.v 1) (cX (.lst [.non,(.int 0),(.tup []),(.tup [(.int 0),(.tup [])]),(.tup [(.int 7),(.tup [])]),(.tup [(.bl true),(.tup [])]),(.tup [(.int 2),(.lst [])]),(.lst [(.int 2),(.tup [])]),(.tup [(.int 2),(.tup [(.tup [(.int 1),(.int 0)])])]),(.tup [(.int 2),(.tup [(.tup [(.int 0),(.int 0)])])])]) (-0))) (.seq (.set (.v 1) (.bin .add v1 (cX (.lst [(.tup [(.int 2),(.tup [(.tup [(.int 0),(.int 2)])])]),(.tup [(.int 3),(.tup [(.tup [(.int 1),(.int 2)]),(.tup [(.int 0),(.int 1)])])]),(.tup [(.int 2),(.tup [(.tup [(.int 0),(.int 1),(.int 1)])])]),(.tup [(.int 2),(.tup [(.tup [(.int 0),(.bl true)])])]),(.tup [(.int 2)]),(.str "2:")]) (-0)))) (.seq (.set (.v 1) (.bin .add v1 (.lst (.cons (.tup (c2 n2 (.bin .mul (cX (.tup [(.tup [(.int 0),(.int 1)])]) (-0)) (.con (.int 9))))) (c5 (.con .dct) (cX (.tup [(.int 2),(.tup [(.lst [(.int 0),(.int 1)])])]) (-0)) (cX (.tup [(.int 2),(.tup []),(.tup [])]) (-0)) (cX (.tup [(.int 2),.non]) (-0)) (cX (.tup [(.str "2"),(.tup [])]) (-0))))))) (s1 (.ret (.idx v1 (.call a60 (c2 v0 (.con (.int 22))))))))))
def f00:Sm:=(.seq (.set (.v 3) (.call a60 (c2 v0 (.bin .add (.bf .len (c1 v2)) n1)))) (.seq (.set (.v 4) (cX (.lst [(.tup [(.int 2),(.int 4)]),(.tup [(.int 1),(.int 0)]),(.tup [(.int 3),(.int 2)]),(.tup [(.int (-1)),(.int 2)]),(.tup [(.int 1),(.int 1001)]),(.tup [(.bl true),(.int 2)]),.non,(.str "1/2"),(.tup [(.int 1)]),(.tup [(.int 1),(.int 2),(.int 2)]),(.lst [(.int 1),(.int 2)]),(.int 1),(.tup [(.int 0),(.int 2)])]) (-0))) (.seq (.set (.v 4) (.idx v4 (.call a60 (c2 v0 (.con (.int 13)))))) (.seq (.set (.v 5) (.lst (c5 (.bin .add (.bin .add (.sl v2 .nil (c1 v3)) (.tup (c1 v4))) (.sl v2 (c1 (.bin .add v3 n1)) .nil)) (.bin .add v2 (cX (.tup [(.tup [(.int 1),(.int 2)])]) (-0))) (.bf .list (c1 v2)) (.con .non) (.con .dct)))) (.seq (.set (.v 5) (.bin .add v5 (.lst (c2 (.bin .add (.bin .add (.sl v2 .nil (c1 v3)) (.tup (c1 v4))) (.sl v2 (c1 v3) .nil)) (.ite (.cmp .ne v2 (.tup .nil)) (.sl v2 (c1 n1) .nil) (.con .non)))))) (s1 (.ret (.idx v5 (.idx (cX (.lst [(.int 0),(.int 0),(.int 0),(.int 0),(.int 1),(.int 2),(.int 3),(.int 4),(.int 5),(.int 6)]) (-0)) (.call a60 (c2 v0 (.con (.int 10)))))))))))))
def p30:Sm:=(.seq (.set (.v 4) (.lst .nil)) (.seq (.fr (.v 5) .seq (c1 (cX (.lst [(.tup [(.int 1),(.int 1)]),(.tup [(.int 0),(.int 1)])]) (-0))) (s1 (.app 4 (.call z90 (c3 v0 (.bin .add (.bin .add (.sl v1 .nil (c1 v3)) (.tup (c1 v5))) (.sl v1 (c1 (.bin .add v3 n1)) .nil)) v2))))) (s1 (.ret (.call F60 (c2 (.idx v4 n0) (.tup (c2 (.bin .sub n0 (.idx (.idx v4 n1) n0)) (.idx (.idx v4 n1) n1)))))))))
def p40:Sm:=(.seq (.set (.v 1) (.con .non)) (.seq (.fr (.v 2) .rng1 (c1 (.bf .len (c1 v0))) (s1 (.iff (.or (.cmp .is v1 (.con .non)) (.cmp .gt (.bin .mul (.idx (.idx v0 v2) n0) (.idx (.idx v0 v1) n1)) (.bin .mul (.idx (.idx v0 v1) n0) (.idx (.idx v0 v2) n1)))) (s1 (.set (.v 1) v2)) .nil))) (s1 (.ret v1))))
def L41:Sm:=(.seq (.fr (.v 1) .rng1 (c1 (.bf .max (c2 n1 (.bf .min (c2 (.bf .len (c1 v0)) (.con (.int 5))))))) (.seq (.newz 2 A00 (c2 v0 v1)) (.seq (.set (.v 3) (.call I20 (c2 v2 (.idx (cX (.lst [(.int 5),(.int 8)]) (-0)) (.bf .int (c1 (.cmp .eq v1 n0))))))) (.seq (.set (p2 (.v 4) (.v 5)) (.tup (c2 (.call w20 (c2 v2 v3)) (.call s50 (c2 v2 v3))))) (.seq (.set (.v 6) (.lst .nil)) (.seq (.fr (.v 7) .rng1 (c1 (.bf .len (c1 (.idx v3 n1)))) (s1 (.app 6 (.call A20 (c4 v3 v5 v4 v7))))) (.seq (.fr (.v 8) .rng1 (c1 n2) (.seq (.set (.v 9) (.call d90 (c3 v3 v5 v4))) (.seq (.iff (.not (.call e20 (c2 v9 v6))) (s1 (.ret (.con (.bl false)))) .nil) (.seq (.iff (.not (.call e20 (c2 (.call e40 (c3 v3 v5 v4)) (.call A30 (c1 v6))))) (s1 (.ret (.con (.bl false)))) .nil) (s1 (.app 9 (cX (.tup [(.int 9),(.int 1)]) (-0)))))))) (.seq (.set (p2 (.v 10) (.v 11)) (.tup (c2 (.call l40 (c2 v2 v3)) (.call s60 (c1 v2))))) (.seq (.set (.v 12) (.call j70 (c3 v2 v3 v5))) (s1 (.frF 13 "worths" "best_tie" (.seq (.iff (.cmp .ne (.refd [3,5,10,13] (.callv 3 [(("worths":Ç3) ,d90),(("best_tie":Ç3) ,e40)] (c3 v0 v1 v2))) (cX (.lst [(.int 2)]) (-0))) (s1 (.ret (.con (.bl false)))) .nil) (.seq (.iff (.and (.cmp .ne v12 v5) (.cmp .ne (.refd [3,10,12,13] (.callv 3 [(("worths":Ç3) ,d90),(("best_tie":Ç3) ,e40)] (c3 v0 v2 v1))) (cX (.lst [(.int 6)]) (-0)))) (s1 (.ret (.con (.bl false)))) .nil) (s1 (.iff (.cmp .ne (.refd [10,11,12,13] (.callv 3 [(("worths":Ç3) ,d90),(("best_tie":Ç3) ,e40)] (c3 v1 v2 v0))) (cX (.lst [(.int 0)]) (-0))) (s1 (.ret (.con (.bl false)))) .nil))))))))))))))) (s1 (.ret (.con (.bl true)))))
def rows:List Row:=[(⟨"common_divisor",["one","other"],top 15,["one","other"],g90,false⟩:Row),
 (⟨"lowest",["top","bottom"],top 16,["top","bottom","divisor"],M70,false⟩:Row),
 (⟨"plus",["one","other"],top 17,["one","other"],A11,false⟩:Row),
 (⟨"minus",["one","other"],top 18,["one","other"],b51,false⟩:Row),
 (⟨"is_less",["one","other"],top 19,["one","other"],F70,false⟩:Row),
 (⟨"first_greatest",["fractions"],top 20,["fractions","best","at","one"],h00,false⟩:Row),
 (⟨"is_whole",["thing"],top 24,["thing"],I30,false⟩:Row),
 (⟨"is_below",["thing","many"],top 25,["thing","many"],x70,false⟩:Row),
 (⟨"is_tie",["thing","many"],top 26,["thing","many","a","b"],M80,false⟩:Row),
 (⟨"are_ties",["thing","many"],top 27,["thing","many"],x80,false⟩:Row),
 (⟨"is_web",["thing"],top 28,["thing","many","ties"],M90,false⟩:Row),
 (⟨"rises",["things"],top 29,["things"],b61,false⟩:Row),
 (⟨"is_rising_below",["thing","many"],top 30,["thing","many"],f60,false⟩:Row),
 (⟨"check_web",["thing"],top 31,["thing"],m50,false⟩:Row),
 (⟨"check_places",["web","thing"],top 32,["web","thing"],g40,false⟩:Row),
 (⟨"marks_by",["web","lot"],top 33,["web","lot","many","ties","marks","number","a","b","kept","gone"],x90,false⟩:Row),
 (⟨"are_joined",["web","lot","places"],top 34,["web","lot","places","marks"],o80,false⟩:Row),
 (⟨"is_chance",["thing"],top 37,["thing","top","bottom"],t40,false⟩:Row),
 (⟨"are_chances",["web","thing"],top 38,["web","thing"],i00,false⟩:Row),
 (⟨"check_chances",["web","thing"],top 39,["web","thing"],d60,false⟩:Row),
 (⟨"with_chance",["chances","number","chance"],top 40,["chances","number","chance"],m60,false⟩:Row),
 (⟨"all_lots",["web"],top 42,["web","lots","number"],r00,false⟩:Row),
 (⟨"good_lots",["web","places"],top 43,["web","places"],t50,false⟩:Row),
 (⟨"all_bottoms",["chances"],top 45,["chances","found","chance"],m70,false⟩:Row),
 (⟨"lot_top",["chances","lot"],top 46,["chances","lot","found","number","top","bottom"],F80,false⟩:Row),
 (⟨"lots_share",["chances","lots"],top 47,["chances","lots"],o90,false⟩:Row),
 (⟨"worth",["chances","good","number"],top 49,["chances","good","number","held"],b71,false⟩:Row),
 (⟨"worths",["web","chances","places"],top 50,["web","chances","places","good"],r10,false⟩:Row),
 (⟨"best_tie",["web","chances","places"],top 51,["web","chances","places"],r20,false⟩:Row),
 (⟨"_law_lots",["_law_web_here"],top 53,["_law_web_here","_law_found","_law_number"],t60,false⟩:Row),
 (⟨"_law_marks",["_law_web_here","_law_lot"],top 54,["_law_web_here","_law_lot","_law_marks_here","_law_number","_law_one","_law_other","_law_first_here","_law_second"],p00,false⟩:Row),
 (⟨"_law_good",["_law_web_here","_law_lot","_law_places_here"],top 55,["_law_web_here","_law_lot","_law_places_here","_law_marks_here"],t70,false⟩:Row),
 (⟨"_law_divided",["_law_top","_law_bottom"],top 56,["_law_top","_law_bottom","_law_one","_law_other"],k30,false⟩:Row),
 (⟨"_law_share",["_law_web_here","_law_chances_here","_law_places_here"],top 57,["_law_web_here","_law_chances_here","_law_places_here","_law_total","_law_lot","_law_amount","_law_number","_law_top","_law_bottom","_law_chance_here"],p10,false⟩:Row),
 (⟨"_law_plus",["_law_one","_law_other"],top 58,["_law_one","_law_other"],t80,false⟩:Row),
 (⟨"_law_cell_at",["_law_script","_law_k"],top 59,["_law_script","_law_k"],g50,false⟩:Row),
 (⟨"_law_state",["_law_script","_law_k"],top 60,["_law_script","_law_k","_law_cell"],j80,false⟩:Row),
 (⟨"_law_take",["_law_state_here","_law_many"],top 61,["_law_state_here","_law_many","_law_found","_law_stirred"],t90,false⟩:Row),
 (⟨"_law_mixed",["_law_state_here","_law_many"],top 62,["_law_state_here","_law_many","_law_left","_law_found"],p20,false⟩:Row),
 (⟨"_law_web",["_law_state_here","_law_most"],top 63,["_law_state_here","_law_most","_law_many","_law_names","_law_way","_law_ties","_law_at","_law_turn","_law_one","_law_other"],y00,false⟩:Row),
 (⟨"_law_places",["_law_state_here","_law_web_here"],top 64,["_law_state_here","_law_web_here","_law_some"],m80,false⟩:Row),
 (⟨"_law_chance",["_law_state_here"],top 65,["_law_state_here","_law_way","_law_bottom"],m90,false⟩:Row),
 (⟨"_law_chances",["_law_state_here","_law_web_here"],top 66,["_law_state_here","_law_web_here"],k40,false⟩:Row),
 (⟨"_law_same",["_law_found","_law_due"],top 67,["_law_found","_law_due"],i80,false⟩:Row),
 (⟨"_law_bad_places",["_law_state_here","_law_web_here"],top 68,["_law_state_here","_law_web_here","_law_some"],f70,false⟩:Row),
 (⟨"_law_bad_web",["_law_state_here"],top 69,["_law_state_here","_law_some"],k50,false⟩:Row),
 (⟨"_law_bad_chances",["_law_state_here","_law_web_here","_law_chances_here"],top 70,["_law_state_here","_law_web_here","_law_chances_here","_law_at","_law_odd","_law_some"],f00,false⟩:Row),
 (⟨"_law_worth",["_law_web_here","_law_chances_here","_law_places_here","_law_number"],top 72,["_law_web_here","_law_chances_here","_law_places_here","_law_number","_law_some","_law_sure"],p30,false⟩:Row),
 (⟨"_law_first",["_law_some"],top 73,["_law_some","_law_found","_law_at"],p40,false⟩:Row),
 (⟨"law",["_law_script"],top 74,["_law_script","_law_k","_law_state_here","_law_web_here","_law_places_here","_law_chances_here","_law_due","_law_number","_law_turn","_law_found","_law_bad","_law_none","_law_odd","_law_call"],L41,true⟩:Row)]
def T:List Df:=[(Df.code 2 2 g90:Df),(Df.code 2 3 M70:Df),(Df.code 2 2 A11:Df),(Df.code 2 2 b51:Df),(Df.code 2 2 F70:Df),(Df.code 1 4 h00:Df),(Df.code 1 1 I30:Df),(Df.code 2 2 x70:Df),(Df.code 2 4 M80:Df),(Df.code 2 2 x80:Df),(Df.code 1 3 M90:Df),(Df.code 1 1 b61:Df),(Df.code 2 2 f60:Df),(Df.code 1 1 m50:Df),(Df.code 2 2 g40:Df),(Df.code 2 10 x90:Df),(Df.code 3 4 o80:Df),(Df.code 1 3 t40:Df),(Df.code 2 2 i00:Df),(Df.code 2 2 d60:Df),(Df.code 3 3 m60:Df),(Df.code 1 3 r00:Df),(Df.code 2 2 t50:Df),(Df.code 1 3 m70:Df),(Df.code 2 6 F80:Df),(Df.code 2 2 o90:Df),(Df.code 3 4 b71:Df),(Df.code 3 4 r10:Df),(Df.code 3 3 r20:Df),(Df.code 1 3 t60:Df),(Df.code 2 8 p00:Df),(Df.code 3 4 t70:Df),(Df.code 2 4 k30:Df),(Df.code 3 10 p10:Df),(Df.code 2 2 t80:Df),(Df.code 2 2 g50:Df),(Df.code 2 3 j80:Df),(Df.code 2 4 t90:Df),(Df.code 2 4 p20:Df),(Df.code 2 10 y00:Df),(Df.code 2 3 m80:Df),(Df.code 1 3 m90:Df),(Df.code 2 2 k40:Df),(Df.code 2 2 i80:Df),(Df.code 2 3 f70:Df),(Df.code 1 2 k50:Df),(Df.code 3 6 f00:Df),(Df.code 4 6 p30:Df),(Df.code 1 3 p40:Df),(Df.code 1 14 L41:Df)]
theorem R62:tabOf rows=T:=rfl
end K3
namespace K3
open Q
open L2 (D)
def t22:D->Bool
 |.int _=>true|_=>false
theorem n00(k:Nat)(x:D)(z:Z):a70 T (k + 3) l20 [.d x] z=some (.ok (.d (.bl (t22 x))) z):=by
 cases z <;> cases x <;> rfl
def c50(x:D)(m:Int):Bool:=match x with
 |.int i=>decide (0<=i)&&decide (i < m)|_=>false
theorem u00(k:Nat)(x:D)(m:Int)(z:Z):a70 T (k + 4) q90 [.d x,.d (.int m)] z=some (.ok (.d (.bl (c50 x m))) z):=by
 refine W.ok (g00 (ps:=2) (ns:=2) (b:=x70) rfl rfl (-0) (Wo (n00 (k:=k) x z) ?_))
 cases x with
 |int i=>exact ib (b:=decide (0<=i)) (λh=>sb (show decide (i < m)=(decide (0<=i)&&decide (i < m)) by rw[h];rfl)) λh=>sb (show false=(decide (0<=i)&&decide (i < m)) by rw[h];rfl)|_=>exact sb rfl
def A21(x:D)(m:Int):Bool:=match x with
 |.tup [a,b]=>c50 a m&&(c50 b m&&(match a,b with
  |.int i,.int j=>decide (i < j)
  |_,_=>false))
 |_=>false
theorem l50(h:c50 x m=true):∃ i,x=.int i/\0<=i/\i < m:=by
 cases x with
 |int i =>
  unfold c50 at h;rw[Á,decide_eq_true_eq,decide_eq_true_eq] at h;exact⟨i,rfl,h⟩
 |_=>cases h
theorem A31(k:Nat)(x:D)(m:Int)(z:Z):a70 T (k + 5) i21 [.d x,.d (.int m)] z=some (.ok (.d (.bl (A21 x m))) z):=by
 refine W.ok (g00 (ps:=2) (ns:=4) (b:=M80) rfl rfl (-0) ?_)
 cases x with
 |tup l =>
  match l with
  |[a,b] =>
   refine Wo (u00 k a m z) (ib (b:=c50 a m) (λh1=>Wo (u00 k b m z) (ib (b:=c50 b m) (λh2=>?_) λh=>?_)) λh=>?_)
   ·obtain⟨i,rfl,_⟩:=l50 h1;obtain⟨j,rfl,_⟩:=l50 h2;exact sb (show decide (i < j)=(c50 (.int i) m&&(c50 (.int j) m&&decide (i < j))) by rw[h1,h2];rfl)
   ·exact sb (show false=(c50 a m&&(c50 b m&&_)) by rw[h1,h];rfl)
   ·exact sb (show false=(c50 a m&&_) by rw[h];rfl)
  |[]=>exact sb rfl|[_]=>exact sb rfl|_::_::_::_=>exact sb rfl
 |_=>exact sb rfl
theorem A40(l:List D)(p:D->Bool):bfD .all [.lst (l.map λx=>D.bl (p x))]=some (.d (.bl (l.all p))):=by
 have h:(l.map λx=>D.bl (p x)).mapM asB=some (l.map p):=by
  induction l with
  |nil=>rfl
  |cons x r ih =>
   rw[Å1,mapM_cons,ih];rfl
 show((l.map λx=>D.bl (p x)).mapM asB).map _=_;rw[h];simp[all_map]
theorem j90(l:List D)(n:Nat):cutD l (some (n:Int)) none=l.drop n:=by
 have h1:HT.sIx l.length 0 (some (n:Int))=min n l.length:=HT.q01 l.length 0 n;unfold cutD;rw[h1];show((l.drop (min n l.length)).take (l.length - min n l.length))=_;rcases Nat.le_total n l.length with h | h
 ·rw[Nat.min_eq_left h,É6 (by rw[Å2];omega)]
 ·rw[Nat.min_eq_right h,drop_length,List.take_nil,List.drop_of_length_le h]
theorem w40:∀ a b:List D,(s10 a b).length<=a.length
 |[],_=>Ë _|_::_,[]=>Å8 _|_::r,_::q=>Ù1 (w40 r q)
theorem b81:∀ {a b:List D}{d:D},d∈s10 a b->∃ x∈a,∃ y∈b,d=.tup [x,y]
 |x::r,y::q,d,h=>by
  rcases ô.mp h with h | h
  ·exact⟨x,Ê,y,Ê,h⟩
  ·obtain⟨u,hu,v,hv,e⟩:=b81 h;exact⟨u,É _ hu,v,É _ hv,e⟩
def leD:D->Bool
 |.tup [.tup a,.tup b]=>(match Z00 a,Z00 b with
  |some ns,some ms=>HT.leB ns ms
  |_,_=>false)
 |_=>false
def T70(l:List D):Bool:=(s10 l (l.drop 1)).all leD
def T80(x:D)(m:Int):Bool:=match x with
 |.tup l=>decide (l.length<=8)&&(l.all (λt=>A21 t m)&&T70 l)|_=>false
theorem T90(h:A21 x m=true):∃ i j,x=.tup [.int i,.int j]/\0<=i/\i < j/\j < m:=by
 cases x with
 |tup l =>
  match l,h with
  |[a,b],h =>
   unfold A21 at h;rw[Á,Á] at h;obtain⟨h1,h2,h3⟩:=h;obtain⟨i,rfl,i1,i2⟩:=l50 h1;obtain⟨j,rfl,j1,j2⟩:=l50 h2;exact⟨i,j,rfl,i1,of_decide_eq_true h3,j2⟩
 |_=>cases h
theorem y10(h:n<=1000):n<=most:=Þ h (-0)
theorem b91(k:Nat)(x:D)(m:Int)(z:Z):a70 T (k + 6) H90 [.d x,.d (.int m)] z=some (.ok (.d (.bl (T80 x m))) z):=by
 refine W.ok (g00 (ps:=2) (ns:=2) (b:=x80) rfl rfl (-0) ?_)
 cases x with
 |tup l =>
  refine ib (b:=decide ((8:Int) < (l.length:Int))) (λh=>?_) λh=>?_
  ·refine sb (show false=(decide (l.length<=8)&&_) from ?_);rw[decide_eq_true_eq] at h;rw[decide_eq_false ∅];rfl
  ·rw[decide_eq_false_iff_not] at h;have h8:l.length<=8:=by omega
   refine ip (y10 ∅) (i11 (λx=>.bl (A21 x m)) (λx _=>Wo (A31 k x m z) ⟨rfl,rfl⟩) ?_)
   refine(a00 (A40 l λx=>A21 x m) ?_ :);refine ib (b:=!l.all λx=>A21 x m) (λh=>?_) λh2=>?_
   ·exact sb (show false=(decide (l.length<=8)&&(l.all (λt=>A21 t m)&&T70 l)) by rw[ð] at h;rw[h,Ó8,Bool.and_false])
   ·rw[È5] at h2;have ha:=ç.mp h2;have e1:cutD l (some 1) none=l.drop 1:=j90 l 1;refine ip (c:=(s10 l (cutD l (some 1) none)).length<=most) (Þ (w40 _ _) (y10 ∅)) (i11 (λx=>.bl (leD x)) (λx hx=>?_) (a00 (A40 _ leD) ?_ :))
    ·obtain⟨u,hu,v,hv,rfl⟩:=b81 hx;rw[e1] at hv;obtain⟨i,j,rfl,_⟩:=T90 (ha u hu);obtain⟨i',j',rfl,_⟩:=T90 (ha v (Ó4 hv));exact⟨rfl,rfl⟩
    ·refine sb (b:=(s10 l (cutD l (some 1) none)).all leD) ?_;show _=(decide (l.length<=8)&&(l.all (λt=>A21 t m)&&T70 l));rw[e1,h2,decide_eq_true h8,Æ4,Æ4];rfl
 |_=>exact sb rfl
def F92(a t:D):Bool:=match a with
 |.int m=>decide (1<=m)&&(decide (m<=6)&&T80 t m)|_=>false
def O90(x:D):Bool:=match x with
 |.tup [a,t]=>F92 a t|_=>false
theorem U00(k:Nat)(x:D)(z:Z):a70 T (k + 7) i31 [.d x] z=some (.ok (.d (.bl (O90 x))) z):=by
 refine W.ok (g00 (ps:=1) (ns:=3) (b:=M90) rfl rfl (-0) ?_)
 cases x with
 |tup l =>
  match l with
  |[a,t] =>
   refine Wo (n00 (k + 3) a _) ?_;cases a with
   |int m =>
    refine ib (b:=decide (1<=m)) (λg1=>ib (b:=decide (m<=6)) (λg2=>Wo (b91 k t m _) ?_) λg2=>?_) λg1=>?_
    ·exact sb (show T80 t m=(decide (1<=m)&&(decide (m<=6)&&T80 t m)) by rw[g1,g2];rfl)
    ·exact sb (show false=(decide (1<=m)&&(decide (m<=6)&&T80 t m)) by rw[g1,g2];rfl)
    ·exact sb (show false=(decide (1<=m)&&(decide (m<=6)&&T80 t m)) by rw[g1];rfl)
   |_=>exact sb rfl
  |[]=>exact sb rfl|[_]=>exact sb rfl|_::_::_::_=>exact sb rfl
 |_=>exact sb rfl
theorem A50(k:Nat)(z:Z)(h:O90 x=true):a70 T (k + 8) m20 [.d x] z=some (.ok (.d .non) z) :=
 W.ok (g00 (ps:=1) (ns:=1) (b:=m50) rfl rfl (-0) (Wo (U00 k x z) (ie (b:=!O90 x) (by rw[h];rfl) (sd rfl))))
theorem U10(k:Nat)(z:Z)(h:O90 x=false):a70 T (k + 8) m20 [.d x] z=some (.er 0 z) :=
 W.er (g00 (ps:=1) (ns:=1) (b:=m50) rfl rfl (-0) (Wo (U00 k x z) (it (b:=!O90 x) (by rw[h];rfl) ⟨rfl,d20 z⟩)))
theorem L51(hj:0 < j):B20 .mod (.int i) (.int j)=some (.d (.int (i % j))):=by
 show(if 0 < j then some (S.d (.int (i % j))) else none)=_;rw[if_pos hj]
def GT(n:Nat)(a b:Int):Prop:=0<=b/\((∃ k:Nat,n=2 * k + 1/\b < 2 ^ k)∨∃ k:Nat,n=2 * k/\b < a/\a < 2 ^ k)
theorem GT.step(h:GT n a b)(hb:0 < b):∃ m,m < n/\GT m b (a % b):=by
 obtain⟨h0,h⟩:=h;have r0:=emod_nonneg a (show b≠0 by omega)
 have r1:=emod_lt_of_pos a hb;rcases h with ⟨k,rfl,hk⟩ | ⟨k,rfl,hba,hk⟩
 ·exact⟨2 * k,Ù2 _,r0,.inr ⟨k,rfl,r1,hk⟩⟩
 ·cases k with
  |zero=>simp at hk;omega
  |succ k =>
   refine⟨2 * k + 1,by omega,r0,.inl ⟨k,rfl,?_⟩⟩
   have e:=Int.emod_add_mul_ediv a b;have q1:1<=a / b:=Int.le_ediv_of_mul_le hb ∅
   have:b * 1<=b * (a / b):=Á1 q1 ∅
   have h2:(2:Int) ^ (k + 1)=2 * 2 ^ k:=by rw[Int.pow_succ,Ç8]
   rw[h2] at hk;omega
theorem A41(a b:Int):gcd b (a % b)=gcd a b:=by
 rw[Int.emod_def,Int.gcd_sub_mul_left_right,Int.gcd_comm]
def big(b:Int):Prop:=b < 2 ^ 4000
theorem c01(h0:0<=b)(h:big b):b.natAbs < H20:=by
 have h:b < 2 ^ 4000:=h;have e:((2 ^ 4000:Nat):Int)=2 ^ 4000:=by rw[Ï7];rfl
 show b.natAbs < 2 ^ 4000;omega
theorem l60(h:b<=2 ^ 64):big b:=Õ8 h (-0)
theorem l70(k:Nat)(a b:Int)(z:Z)(h0:0 < b)(h1:big b):a70 T (k + 3) g80 [.d (.int a),.d (.int b)] z=some (.ok (.d (.int (gcd a b))) z):=by
 refine W.ok (g00 (ps:=2) (ns:=2) (b:=g90) rfl rfl (-0) (c42 (λn ρ z1=>z1=z/\∃ c d:Int,ρ=[some (.d (.int c)),some (.d (.int d))]/\GT n c d/\gcd c d=gcd a b/\(d=0->0<=c)) (2 * 4000 + 1) ⟨rfl,a,b,rfl,⟨Ê0 h0,.inl ⟨4000,rfl,h1⟩⟩,rfl,λh=>by omega⟩ (-0) ?_))
 rintro n ρ z1 ⟨rfl,c,d,rfl,g,hg,hc⟩;refine ib (b:=decide (0 < d)) (λhd=>?_) λhd=>?_
 ·rw[decide_eq_true_eq] at hd;obtain⟨m,hm,g'⟩:=g.step hd;refine(a00 (L51 (i:=c) hd) ?_ :);exact⟨m,hm,rfl,d,c % d,rfl,g',(A41 c d).trans hg,λ_=>Int.le_of_lt hd⟩
 ·rw[decide_eq_false_iff_not] at hd;have hz:d=0:=by have:=g.1;omega
  subst hz;rw[Int.gcd_zero_right] at hg;refine sd (s:=.d (.int c)) ?_;rw[← hg,show((c.natAbs:Nat):Int)=c by have:=hc rfl;omega]
def chI(t b:Int):Bool:=(decide (1<=b)&&decide (b<=1000))&&((decide (0<=t)&&decide (t<=b))&&(((gcd t b:Nat):Int) == 1))
def chP:D->D->Bool
 |.int t,.int b=>chI t b|_,_=>false
def chD:D->Bool
 |.tup [d,e]=>chP d e|_=>false
theorem i41(h:¬ (1<=u/\u<=1000/\0<=t/\t<=u)):false=chI t u:=by
 unfold chI;refine Eq.symm ?_;rw[Bool.eq_false_iff];intro q;rw[Á,Á,Á,Á,decide_eq_true_eq,decide_eq_true_eq,decide_eq_true_eq,decide_eq_true_eq] at q;exact h ⟨q.1.1,q.1.2,q.2.1.1,q.2.1.2⟩
theorem U20(k:Nat)(x:D)(z:Z):a70 T (k + 4) F20 [.d x] z=some (.ok (.d (.bl (chD x))) z):=by
 refine W.ok (g00 (ps:=1) (ns:=3) (b:=t40) rfl rfl (-0) ?_)
 cases x with
 |tup l =>
  match l with
  |[a,b] =>
   refine Wo (n00 k a z) ?_;cases a with
   |int t =>
    refine Wo (n00 k b z) ?_;cases b with
    |int u =>
     refine ib (b:=decide (1<=u)) (λh1=>ib (b:=!decide (u<=1000)) (λh2=>?_) λh2=>ib (b:=decide (0<=t)) (λh3=>ib (b:=!decide (t<=u)) (λh4=>?_) λh4=>?_) λh3=>?_) λh1=>?_
     ·exact sb (i41 λq=>by rw[ð,decide_eq_false_iff_not] at h2;exact h2 q.2.1)
     ·exact sb (i41 λq=>by rw[ð,decide_eq_false_iff_not] at h4;exact h4 q.2.2.2)
     ·rw[È5,decide_eq_true_eq] at h2 h4;rw[decide_eq_true_eq] at h1 h3;refine Wo (l70 k t u z ∅ (l60 ∅)) (sb (show(((gcd t u:Nat):Int) == 1)=chI t u from ?_))
      unfold chI;rw[decide_eq_true h1,decide_eq_true h2,decide_eq_true h3,decide_eq_true h4];rfl
     ·exact sb (i41 λq=>by rw[decide_eq_false_iff_not] at h3;exact h3 q.2.2.1)
     ·exact sb (i41 λq=>by rw[decide_eq_false_iff_not] at h1;exact h1 q.1)
    |_=>exact sb rfl
   |_=>exact sb rfl
  |[]=>exact sb rfl|[_]=>exact sb rfl|_::_::_::_=>exact sb rfl
 |_=>exact sb rfl
def N00(n:Nat):D->Bool
 |.tup l=>(l.length == n)&&l.all chD|_=>false
theorem A51(h:O90 x=true):∃ m ts,x=.tup [.int m,.tup ts]/\1<=m/\m<=6/\ts.length<=8/\(∀ t∈ts,A21 t m=true)/\T70 ts=true:=by
 cases x with
 |tup l =>
  match l,h with
  |[a,t],h =>
   unfold O90 F92 at h;cases a with
   |int m =>
    rw[Á,Á,decide_eq_true_eq,decide_eq_true_eq] at h;obtain⟨h1,h2,h3⟩:=h;unfold T80 at h3;cases t with
    |tup ts =>
     rw[Á,Á,decide_eq_true_eq,Ã6] at h3;exact⟨m,ts,rfl,h1,h2,h3.1,h3.2.1,h3.2.2⟩
    |_=>cases h3
   |_=>cases h
 |_=>cases h
theorem s70(k:Nat)(hw:O90 (.tup [.int m,.tup ts])=true)(x:D)(z:Z):a70 T (k + 9) m30 [.d (.tup [.int m,.tup ts]),.d x] z=some (.ok (.d (.bl (N00 ts.length x))) z):=by
 obtain⟨m',ts',e,_,_,h8,_⟩:=A51 hw;cases e;refine W.ok (g00 (ps:=2) (ns:=2) (b:=i00) rfl rfl (-0) (Wo (A50 k z hw) ?_))
 cases x with
 |tup l =>
  have e:((l.length:Int) == (ts.length:Int))=(l.length == ts.length):=by rw[Ò4,beq_iff_eq,beq_iff_eq];omega
  refine ib (b:=!((l.length:Int) == (ts.length:Int))) (λh=>?_) λh=>?_
  ·rw[e,ð] at h;exact sb (show false=((l.length == ts.length)&&_) by rw[h];rfl)
  ·rw[e,È5] at h;refine ip (y10 (by rw[beq_iff_eq] at h;omega)) (i11 (λx=>.bl (chD x)) (λx _=>Wo (U20 (k + 4) x z) ⟨rfl,rfl⟩) (a00 (A40 l chD) ?_ :))
   exact sb (b:=l.all chD) (show _=((l.length == ts.length)&&l.all chD) by rw[h];rfl)
 |_=>exact sb rfl
theorem n50(k:Nat)(hw:O90 (.tup [.int m,.tup ts])=true)(z:Z)(h:N00 ts.length x=true):a70 T (k + 10) e90 [.d (.tup [.int m,.tup ts]),.d x] z=some (.ok (.d .non) z) :=
 W.ok (g00 (ps:=2) (ns:=2) (b:=d60) rfl rfl (-0) (Wo (s70 k hw x z) (ie (b:=!N00 ts.length x) (by rw[h];rfl) (sd rfl))))
theorem B50(k:Nat)(hw:O90 (.tup [.int m,.tup ts])=true)(z:Z)(h:N00 ts.length x=false):a70 T (k + 10) e90 [.d (.tup [.int m,.tup ts]),.d x] z=some (.er 6 z) :=
 W.er (g00 (ps:=2) (ns:=2) (b:=d60) rfl rfl (-0) (Wo (s70 k hw x z) (it (b:=!N00 ts.length x) (by rw[h];rfl) ⟨rfl,d20 z⟩)))
theorem G50(k:Nat)(hw:O90 w=false)(x:D)(z:Z):a70 T (k + 9) m30 [.d w,.d x] z=some (.er 0 z) :=
 W.er (g00 (ps:=2) (ns:=2) (b:=i00) rfl rfl (-0) (We (U10 k z hw) ⟨rfl,d20 z⟩))
theorem B60(k:Nat)(hw:O90 w=false)(x:D)(z:Z):a70 T (k + 10) e90 [.d w,.d x] z=some (.er 0 z) :=
 W.er (g00 (ps:=2) (ns:=2) (b:=d60) rfl rfl (-0) (We (G50 k hw x z) ⟨rfl,d20 z⟩))
def ZI(z:Z):Prop:=∃ n b,z=some (n,b)/\0<=n/\(b=false->n < 2147483647)
theorem L61{T:List Df}{k f ps ns:Nat}{b:Sm}{l:List S}{z:Z}{Q:S->Z->Prop}{E:Nat->Z->Prop}(hz:ZI z)(h:T[f]?=some (.code ps ns b))(hl:l.length=ps)(hn:ps<=ns)(q:WS (S00 T (k + 2)) false b (start ns (l.map plS)) z (λo z1=>match o with
  |.nx _=>Q (.d .non) z1
  |.rt s=>Q s z1) E):W (a70 T (k + 3) f l) z Q E:=by
 obtain⟨n,c,rfl,_⟩:=hz;refine g00 h hl hn (q.mono (λo z1 h=>?_) λ_ _ h=>h);cases o <;> exact h
theorem A61{a:Int}{n:Nat}(h:a.natAbs < n)(hn:n<=2 ^ 64:=by decide):a.natAbs < H20:=Ù h (Þ hn (-0))
theorem A71{i j:Int}(hi:i.natAbs < 2 ^ 64)(hj:j.natAbs < 2 ^ 64):B20 .mul (.int i) (.int j)=some (.d (.int (i * j))):=by
 show(if i.natAbs < H20/\j.natAbs < H20 then some (S.d (.int (i * j))) else none)=_;rw[if_pos ⟨A61 hi,A61 hj⟩]
theorem G02{i j:Int}(hj:0 < j)(hb:j.natAbs < 2 ^ 64):B20 .fdiv (.int i) (.int j)=some (.d (.int (i / j))):=by
 show(if 0 < j/\j.natAbs < H20 then some (S.d (.int (i / j))) else none)=_;rw[if_pos ⟨hj,A61 hb⟩]
def Drawn(m:Int)(s:S)(z1:Z):Prop:=ZI z1/\∃ r:Nat,s=.d (.int r)/\(r:Int) < m
theorem d80(k:Nat)(m:Int)(hz:ZI z)(m0:0 < m)(m1:m < 2 ^ 32):W (a70 T (k + 3) a60 [.z,.d (.int m)]) z (Drawn m) NE:=by
 have fin:∀ (a:Int) (z1:Z),ZI z1->Drawn m (.d (.int (a % m))) z1:=λa z1 h=>by
  have h0:=emod_nonneg a (show m≠0 by omega)
  exact⟨h,(a % m).toNat,by rw[Int.toNat_of_nonneg h0],by rw[Int.toNat_of_nonneg h0];exact emod_lt_of_pos _ m0⟩
 refine L61 hz (ps:=2) (ns:=4) (b:=t90) rfl rfl (-0) ?_
 obtain⟨n,b,rfl,n0,n1⟩:=hz;cases b with
 |true =>
  refine(a00 (L51 (i:=n) m0) ?_ :);refine(a00 (G02 (i:=n) m0 ∅) ?_ :)
  exact fin n _ ⟨n / m,true,rfl,Ú7 n0 ∅,λh=>nomatch h⟩
 |false =>
  have n1:=n1 rfl;have e1:∀ a:Int,0<=a % 2147483647/\a % 2147483647 < 2147483647:=λa=>⟨emod_nonneg _ (-0),emod_lt_of_pos _ (-0)⟩
  have e2:∀ a:Int,0<=a % 2147483629/\a % 2147483629 < 2147483629:=λa=>⟨emod_nonneg _ (-0),emod_lt_of_pos _ (-0)⟩
  have s1:∀ a:Int,(a % 2147483647).natAbs < 2 ^ 64:=λa=>by have:=e1 a;omega
  have s2:∀ a:Int,(a % 2147483629).natAbs < 2 ^ 64:=λa=>by have:=e2 a;omega
  refine(a00 (A71 (i:=n) (j:=48271) ∅ (-0)) ?_ :)
  have a1:=e1 (n * 48271 + 29);refine(a00 (A71 (s1 (n * 48271 + 29)) (s1 (n * 48271 + 29))) ?_ :);refine(a00 (A71 (i:=39373) (-0) (s1 (n * 48271 + 29))) ?_ :)
  refine(a00 (A71 (s2 _) (s2 _)) ?_ :);refine(a00 (A71 (i:=16807) (-0) (s2 _)) ?_ :)
  refine(a00 (L51 m0) ?_ :);exact fin _ _ ⟨_,false,rfl,a1.1,λ_=>a1.2⟩
theorem n41(k:Nat)(ns:List Int)(j:Nat)(z:Z):∃ c:Int,a70 T (k + 3) s40 [.d (.lst (ns.map D.int)),.d (.int j)] z=some (.ok (.d (.int c)) z):=by
 by_cases h:j < ns.length
 ·refine⟨ns[j],W.ok (g00 (ps:=2) (ns:=2) (b:=g50) rfl rfl (-0) (it (b:=decide ((j:Int) < ((ns.map D.int).length:Int))) (by simp[h]) ?_))⟩
  refine(a00 (o:=L40 (.lst (ns.map D.int)) (.int j)) (L2.J20 (v:=.int ns[j]) (by simp[h])) ?_ :)
  exact sd rfl
 ·exact⟨0,W.ok (g00 (ps:=2) (ns:=2) (b:=g50) rfl rfl (-0) (ie (b:=decide ((j:Int) < ((ns.map D.int).length:Int))) (by simp;omega) (sd rfl)))⟩
theorem L71(k:Nat)(ns:List Int)(j:Nat)(z:Z):∃ (n:Int) (b:Bool),ZI (some (n,b))/\a70 T (k + 4) A00 [.d (.lst (ns.map D.int)),.d (.int j)] z=some (.ok (.fr [.int n,.bl b]) z):=by
 obtain⟨c,hc⟩:=n41 k ns j z;by_cases h:(10 ^ 18:Int)<=c
 ·exact⟨c - 10 ^ 18,true,⟨_,_,rfl,by omega,λh=>nomatch h⟩,W.ok (g00 (ps:=2) (ns:=3) (b:=j80) rfl rfl (-0) (Wo hc (it (b:=decide ((10 ^ 18:Int)<=c)) (decide_eq_true h) (sd rfl))))⟩
 ·refine⟨c % 2147483647,false,⟨_,_,rfl,emod_nonneg _ (-0),λ_=>emod_lt_of_pos _ (-0)⟩,W.ok (g00 (ps:=2) (ns:=3) (b:=j80) rfl rfl (-0) (Wo hc (ie (b:=decide ((10 ^ 18:Int)<=c)) (decide_eq_false h) (sd rfl))))⟩
theorem N10(h0:0<=m)(h1:m < 100000):itD .rng1 [.int m]=some ((î m.toNat).map λ(i:Nat)=>D.int i):=by
 show(if inR m=true then _ else none)=_;rw[if_pos (D70.mpr ⟨by omega,h1⟩)]
theorem ne_nil(h:okD (.lst l)=true):B90 .ne (.lst l) (.lst [])=some (!l.isEmpty):=by
 show(eqO (.lst l) (.lst [])).map (!·)=_;unfold eqO;rw[h];cases l <;> rfl
theorem c21:∀ l:List Int,e10 (l.map D.int)=true/\f10 (l.map D.int)=0
 |[]=>⟨rfl,rfl⟩
 |x::r=>by
  obtain⟨h1,h2⟩:=c21 r;refine⟨h1,?_⟩;show Ò1 0 (f10 (r.map D.int))=0;rw[h2];rfl
theorem U30(l:List Int):okD (.lst (l.map D.int))=true:=by
 obtain⟨h1,h2⟩:=c21 l;show(e10 (l.map D.int)&&decide (f10 (l.map D.int) + 1<=40))=true;rw[h1,h2];rfl
theorem N20(n:Nat):(î n).map (λ(i:Nat)=>D.int i)=((î n).map λ(i:Nat)=>(i:Int)).map D.int:=by
 rw[ù];rfl
theorem A60(f:α->β):∀ (l:List α) (i:Nat),(l.map f).eraseIdx i=(l.eraseIdx i).map f
 |[],_=>rfl|x::r,0=>rfl|x::r,i + 1=>congrArg (f x::·) (A60 f r i)
theorem I40:∀ (l:List α) (j:Nat) (h:j < l.length),(l[j]::l.eraseIdx j).Perm l
 |x::r,0,_=>.refl _|x::r,j + 1,h=>(List.Perm.swap _ _ _).trans ((I40 r j (Nat.lt_of_succ_lt_succ h)).cons x)
theorem y20{l:List Int}{j:Nat}(h:j < l.length):(l.map D.int)[j]?=some (.int l[j]):=by rw[Ø,Ð h];rfl
theorem N30{j:Nat}(h:l[j]?=some x):L40 (.lst l) (.int j)=some x:=L2.J20 h
theorem c31{j:Nat}(h:l[j]?=some x):L40 (.tup l) (.int j)=some x:=L2.J20 h
theorem c52(k:Nat){m:Int}{z:Z}(hz:ZI z)(m0:1<=m)(m1:m<=100):W (a70 T (k + 4) A10 [.z,.d (.int m)]) z (λs z1=>ZI z1/\∃ l:List Int,s=.d (.tup (l.map D.int))/\(l.length:Int)=m/\(∀ x∈l,0<=x/\x < m)/\l.Nodup) NE:=by
 refine L61 hz (ps:=2) (ns:=4) (b:=p20) rfl rfl (-0) ?_
 refine(a00 (o:=lrD [.int m]) (N10 ∅ ∅) ?_ :)
 refine c42 (λn ρ z1=>ZI z1/\∃ left found:List Int,ρ=[some .z,some (.d (.int m)),some (.fr (left.map D.int)),some (.fr (found.map D.int))]/\n=left.length/\(left++found).Nodup/\(∀ x∈left++found,0<=x/\x < m)/\((left.length + found.length:Nat):Int)=m) m.toNat ?_ (by show m.toNat < 20000;omega) ?_
 ·refine⟨hz,(î m.toNat).map λ(i:Nat)=>(i:Int),[],?_,by simp,?_,?_,by simp;omega⟩
  ·rw[← N20];rfl
  ·rw[É2];exact List.pairwise_map.mpr (List.nodup_range.imp λh e=>h (Int.ofNat_inj.mp e))
  ·intro x hx;rw[É2] at hx;obtain⟨i,hi,rfl⟩:=á.mp hx;have:=Å7.mp hi;omega
 ·rintro n ρ z1 ⟨hz1,left,found,rfl,rfl,nd,hm,hl⟩;refine(a00 (ne_nil (U30 left)) ?_ :);cases left with
  |nil=>exact⟨hz1,found,rfl,by simpa using hl,λx hx=>hm x (by simpa using hx),by simpa using nd⟩
  |cons x r =>
   have hl2:((r.length + 1 + found.length:Nat):Int)=m:=by simpa using hl
   refine(d80 k (((x::r).map D.int).length:Int) hz1 (by simp only[È,Ô];omega) (by simp only[È,Ô];omega)).imp λs z2 ⟨hz2,j,e,v1⟩=>?_
   subst e;have hj:j < (x::r).length:=by simp only[È] at v1;omega
   have hget:((x::r).map D.int)[j]?=some (.int ((x::r)[j])):=y20 hj;have ha:u11 [some .z,some (.d (.int m)),some (.fr ((x::r).map D.int)),some (.fr (found.map D.int))] 3 2 (found.map D.int) ((x::r).map D.int) j=some (.nx [some .z,some (.d (.int m)),some (.fr (((x::r).map D.int).eraseIdx j)),some (.fr (found.map D.int++[.int ((x::r)[j])]))]):=by
    unfold u11;rw[if_pos ⟨by decide,by omega,D70.mpr (by simp only[Ô] at hj;omega),by rw[È];simp only[most];omega⟩,Ã2,hget]
    rfl
   refine a00 (o:=(pl [S.d (.int j)]).bind asI) (a:=(j:Int)) rfl (a00 ha ?_);refine⟨((x::r).eraseIdx j).length,?_,hz2,(x::r).eraseIdx j,found++[(x::r)[j]],?_,rfl,?_,?_,?_⟩
   ·rw[Û4 hj];simp
   ·rw[A60,Ã9];rfl
   ·have hp:(((x::r).eraseIdx j)++(found++[(x::r)[j]])).Perm ((x::r)++found):=by
     have h1:((x::r)[j]::(x::r).eraseIdx j).Perm (x::r):=I40 _ _ hj;have h2:(((x::r).eraseIdx j)++(found++[(x::r)[j]])).Perm ((x::r)[j]::((x::r).eraseIdx j++found)):=by
      rw[← Ê4];exact Û3 _ _
     exact h2.trans (h1.append_right found)
    exact hp.nodup_iff.mpr nd
   ·intro y hy;refine hm y ?_;simp only[Â3,ÿ] at hy ⊢;rcases hy with hy | hy | hy
    ·exact .inl (List.mem_of_mem_eraseIdx hy)
    ·exact .inr hy
    ·exact .inl (by rw[hy];exact Á2 hj)
   ·rw[Û4 hj,Â0];simp only[Ô,Ã0] at hl ⊢;omega
def pr(p:Int × Int):D:=.tup [.int p.1,.int p.2]
def ky(p:Int × Int):List Int:=[p.1,p.2]
theorem R72(a b c d:Int):MySort.k20 [a,b] [c,d]=if a=c then(if b=d then false else decide (b < d)) else decide (a < c):=rfl
def Ch:List (Int × Int)->Prop
 |a::b::r=>HT.leB (ky a) (ky b)=true/\Ch (b::r)|_=>True
theorem i51(h:MySort.k20 (ky p) (ky q)=true):HT.leB (ky p) (ky q)=true:=by
 unfold HT.leB;unfold ky at h ⊢;rw[R72] at h ⊢;by_cases h1:p.1=q.1
 ·rw[if_pos h1] at h;rw[if_pos h1.symm];by_cases h2:p.2=q.2
  ·rw[if_pos h2] at h;cases h
  ·rw[if_neg h2] at h;rw[if_neg (Â2 h2)];simp only[decide_eq_true_eq] at h;simp;omega
 ·rw[if_neg h1] at h;rw[if_neg (Â2 h1)];simp only[decide_eq_true_eq] at h;simp;omega
def D51(k:Int × Int):List (Int × Int)->List (Int × Int)
 |[]=>[k]|y::r=>if MySort.k20 (ky y) (ky k) then y::D51 k r else k::y::r
def A81:List (Int × Int)->List (Int × Int)
 |[]=>[]|k::r=>D51 k (A81 r)
theorem U40(k:Int × Int):∀ l,(D51 k l).Perm (k::l)
 |[]=>.refl _
 |y::r=>by
  unfold D51;split
  ·exact((U40 k r).cons y).trans (.swap _ _ _)
  ·exact .refl _
theorem I50:∀ l,(A81 l).Perm l
 |[]=>.refl _|k::r=>(U40 k _).trans ((I50 r).cons k)
theorem A91(k:Int × Int):∀ l,Ch l->Ch (D51 k l)
 |[],_=>trivial
 |[y],_=>by
  unfold D51;split
  ·rename_i h;exact⟨i51 h,trivial⟩
  ·rename_i h;refine⟨?_,trivial⟩;unfold HT.leB;simpa using h
 |y::x::r,h=>by
  obtain⟨h1,h2⟩:=h;have ih:=A91 k (x::r) h2;unfold D51;split
  ·rename_i hy;unfold D51 at ih ⊢;split at ih
   ·rename_i hx;rw[if_pos hx];exact⟨h1,ih⟩
   ·rename_i hx;rw[if_neg hx];exact⟨i51 hy,ih⟩
  ·rename_i hy;refine⟨?_,h1,h2⟩;unfold HT.leB;simpa using hy
theorem i61:∀ l,Ch (A81 l)
 |[]=>trivial|k::r=>A91 k _ (i61 r)
theorem i71(k:Int × Int):∀ l:List (Int × Int),I71 (pr k) (l.map pr)=(D51 k l).map pr
 |[]=>rfl
 |y::r=>by
  unfold D51;show(if MySort.k20 (ky y) (ky k) then pr y::I71 (pr k) (r.map pr) else pr k::pr y::r.map pr)=_;split
  ·rw[i71 k r];rfl
  ·rfl
theorem U50:∀ l:List (Int × Int),L30 (l.map pr)=(A81 l).map pr
 |[]=>rfl
 |k::r=>by
  show I71 (pr k) (L30 (r.map pr))=_;rw[U50 r,i71];rfl
theorem G12(p q:Int × Int):ltD (pr p) (pr q)=some (MySort.k20 (ky p) (ky q)):=by
 show(if (p.1 == q.1)=true then(if (p.2 == q.2)=true then some false else some (decide (p.2 < q.2))) else some (decide (p.1 < q.1)))=some (if p.1=q.1 then(if p.2=q.2 then false else decide (p.2 < q.2)) else decide (p.1 < q.1));simp only[beq_iff_eq];split
 ·split <;> rfl
 ·rfl
theorem c62(p q:Int × Int):u90 (pr p) (pr q)=true:=by
 unfold u90;rw[G12];show(true&&((some (MySort.k20 (ky p) (ky q)) == some (MySort.k20 (ky p) (ky q)))&&(((p.1 == q.1)&&((p.2 == q.2)&&true)) || !([p.1,p.2] == [q.1,q.2]))))=true;rw[beq_self_eq_true,Æ4,Æ4,Ï4];by_cases h1:p.1=q.1 <;> by_cases h2:p.2=q.2 <;> simp[h1,h2]
theorem B01(l:List (Int × Int)):z50 (l.map pr)=true:=by
 refine ç.mpr λx hx=>?_;obtain⟨p,_,rfl⟩:=á.mp hx;show(true&&(true&&(l.map pr).all (u90 (pr p))))=true;refine ç.mpr λy hy=>?_;obtain⟨q,_,rfl⟩:=á.mp hy;exact c62 p q
theorem B11(h:l.length < 64):bfD .sorted [.lst (l.map pr)]=some (.fr ((A81 l).map pr)):=by
 show(if (l.map pr).length < 64/\z50 (l.map pr)=true then some (S.fr (L30 (l.map pr))) else(I12 (l.map pr)).map S.fr)=_;rw[if_pos ⟨by rw[È];exact h,B01 l⟩,U50]
theorem i81:∀ {l:List (Int × Int)},Ch l->T70 (l.map pr)=true
 |[],_=>rfl|[_],_=>rfl
 |a::b::r,h=>by
  have ih:=i81 h.2;show((s10 (pr a::pr b::r.map pr) (pr b::r.map pr)).all leD)=true;have e:s10 (pr a::pr b::r.map pr) (pr b::r.map pr)=.tup [pr a,pr b]::s10 (pr b::r.map pr) (r.map pr):=rfl;rw[e,Â1,Á];exact⟨h.1,ih⟩
theorem w50:∀ l:List (Int × Int),j10 (l.map pr)=true
 |[]=>rfl
 |_::r=>by
  show(bare _&&j10 (r.map pr))=true;rw[w50 r];rfl
theorem c72:∀ l:List (Int × Int),e10 (l.map pr)=true/\f10 (l.map pr)<=1
 |[]=>⟨rfl,by decide⟩
 |p::r=>by
  obtain⟨h1,h2⟩:=c72 r;refine⟨?_,?_⟩
  ·show(t30 (pr p)&&e10 (r.map pr))=true;rw[h1];rfl
  ·show Ò1 (deep (pr p)) (f10 (r.map pr))<=1;have:deep (pr p)=1:=rfl;rw[this];exact Nat.max_le.mpr ⟨Ë _,h2⟩
theorem B21(l:List (Int × Int)):okD (.lst (l.map pr))=true:=by
 obtain⟨h1,h2⟩:=c72 l;unfold okD;rw[Á,decide_eq_true_eq];refine⟨h1,?_⟩;show f10 (l.map pr) + 1<=40;omega
theorem B31(l:List (Int × Int)):okD (.tup (l.map pr))=true:=B21 l
def G10(m:Int)(ps:List (Int × Int)):D:=.tup [.int m,.tup (ps.map pr)]
structure f80(m:Int)(ps:List (Int × Int)):Prop where
 m1:1<=m
 m6:m<=6
 len:ps.length<=8
 tie:∀ p∈ps,0<=p.1/\p.1 < p.2/\p.2 < m
 ch:Ch ps
theorem f80.web(g:f80 m ps):O90 (G10 m ps)=true:=by
 unfold G10 O90 F92 T80;simp only[Á,decide_eq_true_eq,Ã6,È];refine⟨g.m1,g.m6,g.len,λt ht=>?_,i81 g.ch⟩;obtain⟨p,hp,rfl⟩:=á.mp ht;obtain⟨h1,h2,h3⟩:=g.tie p hp;unfold pr A21 c50;simp only[Á,decide_eq_true_eq];omega
def OkP(m:Int)(p:Int × Int):Prop:=0<=p.1/\p.1 < m/\0<=p.2/\p.2 < m/\p.1≠p.2
theorem t32(h1:0<=i)(hi:i < 100)(h0:-100 < m)(h:m < 100000):itD .rng2 [.int i,.int m]=some ((î (m - i).toNat).map λ(k:Nat)=>D.int (i + k)):=by
 show(if inR i=true/\inR m=true then _ else none)=_;rw[if_pos ⟨D70.mpr ∅,D70.mpr ∅⟩]
theorem N40{L:List D}{n:Nat}(f:D->Bool)(h:n < L.length)(ha:L.all f=true):∃ x,L[n]?=some x/\f x=true :=
 ⟨L[n],Ð h,ç.mp ha _ (Á2 h)⟩
def btw(a b:Int):D->Bool
 |.int i=>decide (a<=i)&&decide (i<=b)|_=>false
theorem i91(h:btw a b x=true):∃ i,x=.int i/\a<=i/\i<=b:=by
 cases x with
 |int i =>
  unfold btw at h;rw[Á,decide_eq_true_eq,decide_eq_true_eq] at h;exact⟨i,rfl,h⟩
 |_=>cases h
theorem U60(h1:a<=i)(h2:i<=b):btw a b (.int i)=true:=by
 show(decide (a<=i)&&decide (i<=b))=true;rw[decide_eq_true h1,decide_eq_true h2];rfl
theorem R81{l:List Int}(nd:l.Nodup){i j:Nat}(hi:i < l.length)(hj:j < l.length)(h:i≠j):l[i]≠l[j]:=λe=>h ((List.getElem_inj nd).mp e)
theorem j01(l:List D)(h:0<=n):cutD l none (some n)=l.take n.toNat:=by
 obtain⟨k,rfl⟩:=É3 h;have h1:HT.sIx l.length l.length (some (k:Int))=min k l.length:=HT.q01 _ _ k;unfold cutD;rw[h1];show(l.drop 0).take (min k l.length - 0)=_;rw[List.drop_zero,Nat.sub_zero,Ã2];rcases Nat.le_total k l.length with h | h
 ·rw[Nat.min_eq_left h]
 ·rw[Nat.min_eq_right h,List.take_length,É6 h]
theorem N50(h:∀ p∈ps,OkP m p)(hp:OkP m p):∀ q∈ps++[p],OkP m q:=λq hq=>by
 rcases Â3.mp hq with hq | hq
 ·exact h q hq
 ·rw[ÿ.mp hq];exact hp
theorem R91{α:Type}{l:List α}{a:α}:(l++[a]).length=l.length + 1:=by rw[Â0];rfl
theorem S01(a b:Int):(if b < a then b else a)=min a b/\(if b > a then b else a)=max a b:=by
 constructor <;> (split <;> omega)
abbrev c82(mo m:Int)(l:List Int)(wn:Nat)(ps:List (Int × Int))(o6 o7 o8 o9:Option S):Env:=[some .z,some (.d (.int mo)),some (.d (.int m)),some (.d (.tup (l.map D.int))),some (.d (.int wn)),some (.fr (ps.map pr)),o6,o7,o8,o9]
theorem j11:c82 mo m l wn (ps++[p]) o6 o7 o8 o9=[some .z,some (.d (.int mo)),some (.d (.int m)),some (.d (.tup (l.map D.int))),some (.d (.int wn)),some (.fr (ps.map pr++[pr p])),o6,o7,o8,o9]:=by rw[c82,Ã9];rfl
theorem U70{P:Int × Int->Prop}:∀ {xs ys:List D},PySem.Paired (λ_ y=>∃ c,y=pr c/\P c) xs ys->∃ cs:List (Int × Int),ys=cs.map pr/\cs.length=xs.length/\∀ c∈cs,P c
 |[],_,h=>by cases h;exact⟨[],rfl,rfl,λc hc=>nomatch hc⟩
 |x::r,_,h=>by
  cases h with
  |cons h1 h2 =>
   obtain⟨c,rfl,hc⟩:=h1;obtain⟨cs,rfl,hl,ha⟩:=U70 h2;refine⟨c::cs,rfl,by rw[Ô,hl];rfl,λd hd=>?_⟩
   rcases ô.mp hd with rfl | hd
   ·exact hc
   ·exact ha d hd
theorem B41(k:Nat){mo:Int}{z:Z}(hz:ZI z)(h0:0<=mo)(h8:mo<=8):W (a70 T (k + 5) I20 [.z,.d (.int mo)]) z (λs z1=>ZI z1/\∃ m ps,s=.d (G10 m ps)/\f80 m ps/\(ps.length:Int)<=mo) NE:=by
 refine L61 hz (ps:=2) (ns:=10) (b:=y00) rfl rfl (-0) ?_
 refine(d80 (k + 1) 8 hz (-0) (-0)).imp λs z1 ⟨hz1,n,e,hn⟩=>?_
 subst e;obtain⟨x,ex,hx⟩:=N40 (L:=[D.int 5,.int 4,.int 6,.int 3,.int 4,.int 2,.int 6,.int 1]) (n:=n) (btw 1 6) (by simp only[Ô,Ã0];omega) (-0)
 obtain⟨m,rfl,m1,m6⟩:=i91 hx;refine(a00 (N30 ex) ?_ :);refine(c52 k hz1 m1 ∅).imp λs z2 ⟨hz2,l,e,ll,lm,nd⟩=>?_
 subst e;refine(d80 (k + 1) 6 hz2 (-0) (-0)).imp λs z3 ⟨hz3,wn,e,hw⟩=>?_
 subst e;refine(a00 (t32 (i:=1) (m:=m) (-0) (-0) ∅ ∅) ?_ :)
 have hll:1<=l.length:=by omega
 refine o70 (λxs ρ z=>ZI z/\(∀ x∈xs,∃ a:Nat,x=.int a/\1<=a/\(a:Int) < m)/\∃ (ps:List (Int × Int)) (o6:Option S),ρ=c82 mo m l wn ps o6 none none none/\(∀ p∈ps,OkP m p)/\ps.length + xs.length<=6) _ ⟨hz3,λx hx=>?_,[],none,rfl,(λp hp=>nomatch hp),by simp;omega⟩ ?_ ?_
 ·obtain⟨i,hi,rfl⟩:=á.mp hx;have:=Å7.mp hi;exact⟨1 + i,by rw[Int.natCast_add];rfl,by omega,by omega⟩
 ·rintro x r ρ z4 ⟨hz4,hx,ps,o6,rfl,hp,hl⟩;obtain⟨an,rfl,a1,a2⟩:=hx x Ê;obtain⟨y,ey,hy⟩:=N40 (L:=[D.int (an - 1),.int (an - 1),.int 0,.int ((an:Int) / 2),.int (an - 1),.int 0]) (n:=wn) (btw 0 (an - 1)) (by simp only[Ô,Ã0];omega) (by
   simp only[Â1,all_nil,Ï4,Á];refine⟨U60 ?_ ?_,U60 ?_ ?_,U60 ?_ ?_,U60 ?_ ?_,U60 ?_ ?_,U60 ?_ ?_⟩ <;> omega)
  obtain⟨v,rfl,v0,v1⟩:=i91 hy;obtain⟨v,rfl⟩:=É3 v0;have ha:an < l.length:=by omega
  have hvl:v < l.length:=by omega
  refine(a00 (c31 (y20 ha)) ?_ :);refine(a00 (N30 ey) ?_ :);refine(a00 (c31 (y20 hvl)) ?_ :);refine ip ⟨rfl,by rw[È];simp only[most,Ô] at hl ⊢;omega⟩ ?_
  have h1:=lm _ (Á2 ha);have h2:=lm _ (Á2 hvl);exact⟨hz4,λx hx'=>hx x (É _ hx'),ps++[(l[an],l[v])],_,(j11 (p:=(l[an],l[v]))).symm,N50 hp ⟨h1.1,h1.2,h2.1,h2.2,R81 nd ha hvl ∅⟩,by rw[R91];simp only[Ô] at hl;omega⟩
 ·rintro ρ z4 ⟨hz4,_,ps,o6,rfl,hp,hl⟩;have hl':ps.length<=6:=hl;refine c32 (λρ z5=>z5=z4/\∃ ps:List (Int × Int),ρ=c82 mo m l wn ps o6 none none none/\(∀ p∈ps,OkP m p)/\ps.length<=7) ?_ ?_
  ·refine ib (b:=(wn:Int) == 0) (λh1=>ib (b:=decide (2 < m)) (λh2=>?_) λh2=>⟨rfl,ps,rfl,hp,by omega⟩) λh1=>⟨rfl,ps,rfl,hp,by omega⟩
   rw[decide_eq_true_eq] at h2;have i2:m.toNat - 1 < l.length:=by omega
   have e2:m - 1=((m.toNat - 1:Nat):Int):=by omega
   refine(a00 (c31 (j:=0) (y20 hll)) ?_ :);refine(a00 (o:=L40 (.tup (l.map D.int)) (.int (m - 1))) (a:=.int l[m.toNat - 1]) (by rw[e2];exact c31 (y20 i2)) ?_ :)
   refine ip ⟨rfl,by rw[È];simp only[most];omega⟩ ?_
   have h3:=lm _ (Á2 hll);have h4:=lm _ (Á2 i2);exact⟨rfl,ps++[(l[0],l[m.toNat - 1])],(j11 (p:=(l[0],l[m.toNat - 1]))).symm,N50 hp ⟨h3.1,h3.2,h4.1,h4.2,R81 nd hll i2 ∅⟩,by rw[R91];omega⟩
  ·rintro ρ z5 ⟨rfl,ps,rfl,hp,hl⟩;refine c32 (λρ z6=>z6=z5/\∃ (ps:List (Int × Int)) (o6:Option S),ρ=c82 mo m l wn ps o6 none none none/\(∀ p∈ps,OkP m p)/\ps.length<=7) ?_ ?_
   ·refine ib (b:=(wn:Int) == 4) (λh1=>⟨rfl,ps.drop 1,G30 (R60 (.fr (cutD (ps.map pr) (some 1) none))) o6,?_,λp hp'=>hp p (Ó4 hp'),by rw[Å2];omega⟩) λh1=>⟨rfl,ps,o6,rfl,hp,hl⟩
    have e:(ps.drop 1).map pr=cutD (ps.map pr) (some 1) none:=by rw[map_drop];exact(j90 _ 1).symm
    exact Eq.symm (congrArg (λx=>[some S.z,some (.d (.int mo)),some (.d (.int m)),some (.d (.tup (l.map D.int))),some (.d (.int wn)),some (.fr x),G30 (R60 (.fr (cutD (ps.map pr) (some 1) none))) o6,none,none,none]) e)
   ·rintro ρ z6 ⟨rfl,ps,o6,rfl,hp,hl⟩;refine(d80 (k + 1) 5 hz4 (-0) (-0)).imp λs z5 ⟨hz5,t,e,ht⟩=>?_
    subst e;refine(a00 (N10 (m:=t) ∅ ∅) ?_ :)
    refine o70 (λxs ρ z=>ZI z/\∃ (ps:List (Int × Int)) (o6 o7 o8 o9:Option S),ρ=c82 mo m l wn ps o6 o7 o8 o9/\(∀ p∈ps,OkP m p)/\ps.length + xs.length<=11) _ ⟨hz5,ps,_,_,_,_,rfl,hp,by simp;omega⟩ ?_ ?_
    ·rintro x r ρ z2 ⟨hz2,ps,o6,o7,o8,o9,rfl,hp,hl⟩;refine(d80 (k + 1) m hz2 ∅ ∅).imp λs z3 ⟨hz3,a,e,a1⟩=>?_
     subst e;refine(d80 (k + 1) m hz3 ∅ ∅).imp λs z4 ⟨hz4,b,e,b1⟩=>?_
     subst e;refine ib (b:=!((a:Int) == (b:Int))) (λhab=>?_) λhab=>⟨hz4,ps,_,_,_,_,rfl,hp,by simp only[Ô] at hl;omega⟩
     refine ip ⟨rfl,by rw[È];simp only[most,Ô] at hl ⊢;omega⟩ ?_
     exact⟨hz4,ps++[((a:Int),(b:Int))],_,_,_,_,(j11 (p:=((a:Int),(b:Int)))).symm,N50 hp ⟨by omega,a1,by omega,b1,by simpa using hab⟩,by rw[R91];simp only[Ô] at hl;omega⟩
    ·rintro ρ z2 ⟨hz2,ps,o6,o7,o8,o9,rfl,hp,hl⟩;refine c32 (λρ z3=>ZI z3/\∃ ps:List (Int × Int),ρ=c82 mo m l wn ps o6 o7 o8 o9/\(∀ p∈ps,OkP m p)/\ps.length<=12) ?_ ?_
     ·have hl:ps.length<=11:=hl;refine(a00 (ne_nil (B21 ps)) ?_ :);cases ps with
      |nil=>exact⟨hz2,[],rfl,hp,by simp⟩
      |cons p r =>
       refine(d80 (k + 1) 3 hz2 (-0) (-0)).imp λs z3 ⟨hz3,a,e,a1⟩=>?_
       subst e;refine ib (b:=(a:Int) == 0) (λha=>?_) λha=>⟨hz3,p::r,rfl,hp,by omega⟩
       have hll:(((p::r).map pr).length:Int)=((p::r).length:Nat):=by rw[È]
       refine(d80 (k + 1) (((p::r).map pr).length:Int) hz3 (by rw[hll];simp only[Ô];omega) (by rw[hll];omega)).imp λs z4 ⟨hz4,j,e,b1⟩=>?_
       subst e;have hj:j < (p::r).length:=by rw[hll] at b1;omega
       refine(a00 (N30 (l:=(p::r).map pr) (x:=pr (p::r)[j]) (by rw[Ø,Ð hj];rfl)) ?_ :)
       refine ip ⟨rfl,by rw[È];simp only[most];omega⟩ ?_
       exact⟨hz4,(p::r)++[(p::r)[j]],(j11 (p:=(p::r)[j])).symm,N50 hp (hp _ (Á2 hj)),by rw[R91];omega⟩
     ·rintro ρ z3 ⟨hz3,ps,rfl,hp,hl⟩;have e1:cutD (ps.map pr) none (some mo)=(ps.take mo.toNat).map pr:=by rw[j01 _ h0,map_take]
      have mm:(cutD (ps.map pr) none (some mo)).map (λx=>match x with | .tup [.int a,.int b]=>pr (min a b,max a b) | x=>x)=((ps.take mo.toNat).map λp=>(min p.1 p.2,max p.1 p.2)).map pr:=by
       rw[e1,ù,ù];rfl
      refine ip (c:=(cutD (ps.map pr) none (some mo)).length<=most) (by rw[e1,È,Ã4];simp only[most];omega) (i11 (λx=>match x with | .tup [.int a,.int b]=>pr (min a b,max a b) | x=>x) (λd hd=>?_) ?_)
      ·rw[e1] at hd;obtain⟨p,hp',rfl⟩:=á.mp hd;exact⟨by show D.tup [.int _,.int _]=pr (min p.1 p.2,max p.1 p.2);rw[(S01 p.1 p.2).1,(S01 p.1 p.2).2];rfl,rfl⟩
      ·rw[mm];refine(a00 (B11 (l:=(ps.take mo.toNat).map λp=>(min p.1 p.2,max p.1 p.2)) (by rw[È,Ã4];omega)) ?_ :)
       have hperm:=I50 ((ps.take mo.toNat).map λp=>(min p.1 p.2,max p.1 p.2));have hlen:=hperm.length_eq;rw[È,Ã4] at hlen;refine⟨hz3,m,_,rfl,⟨m1,m6,by omega,λq hq=>?_,i61 _⟩,by omega⟩
       obtain⟨p,hp',rfl⟩:=á.mp (hperm.mem_iff.mp hq);obtain⟨a0,a1,b0,b1,hab⟩:=hp p (List.mem_of_mem_take hp');dsimp only;omega
theorem L81(hj:0 < j)(hb:big j):B20 .fdiv (.int i) (.int j)=some (.d (.int (i / j))):=by
 show(if 0 < j/\j.natAbs < H20 then some (S.d (.int (i / j))) else none)=_;rw[if_pos ⟨hj,c01 ∅ hb⟩]
theorem L91(i0:0<=i)(hi:big i)(j0:0<=j)(hj:big j):B20 .mul (.int i) (.int j)=some (.d (.int (i * j))):=by
 show(if i.natAbs < H20/\j.natAbs < H20 then some (S.d (.int (i * j))) else none)=_;rw[if_pos ⟨c01 i0 hi,c01 j0 hj⟩]
theorem p50(h:0 < b):0 < ((gcd t b:Nat):Int):=by
 have:=Int.gcd_pos_of_ne_zero_right (a:=t) (b:=b) ∅
 omega
theorem N60(h:0 < b)(hb:big b):big (gcd t b:Int):=Õ8 (le_of_dvd h (Int.gcd_dvd_right t b)) hb
def j40(t b:Int):Int × Int:=(t / gcd t b,b / gcd t b)
theorem U80(k:Nat)(t b:Int)(z:Z)(h0:0 < b)(h1:big b):a70 T (k + 4) M60 [.d (.int t),.d (.int b)] z=some (.ok (.d (pr (j40 t b))) z):=by
 refine W.ok (g00 (ps:=2) (ns:=3) (b:=M70) rfl rfl (-0) (Wo (l70 k t b z h0 h1) ?_))
 refine(a00 (L81 (i:=t) (p50 (t:=t) h0) (N60 h0 h1)) ?_ :);refine(a00 (L81 (i:=b) (p50 (t:=t) h0) (N60 h0 h1)) ?_ :);exact sd rfl
theorem y30(k:Nat)(t b:Int)(z:Z)(h0:0 < b)(h1:big b):a70 T (k + 3) g30 [.d (.int t),.d (.int b)] z=some (.ok (.d (pr (j40 t b))) z):=by
 refine W.ok (g00 (ps:=2) (ns:=4) (b:=k30) rfl rfl (-0) (c42 (λn ρ z1=>z1=z/\∃ c d:Int,ρ=[some (.d (.int t)),some (.d (.int b)),some (.d (.int c)),some (.d (.int d))]/\GT n c d/\gcd c d=gcd t b/\(d=0->0<=c)) (2 * 4000 + 1) ⟨rfl,_,b,rfl,⟨Ê0 h0,.inl ⟨4000,rfl,h1⟩⟩,?_,λh=>by omega⟩ (-0) ?_))
 ·show gcd (if t < 0 then -t else t) b=_;split
  ·rw[Int.neg_gcd]
  ·rfl
 ·rintro n ρ z1 ⟨rfl,c,d,rfl,g,hg,hc⟩;refine ib (b:=!(d == 0)) (λhd=>?_) λhd=>?_
  ·rw[ð,beq_eq_false_iff_ne] at hd;have hd':0 < d:=by have:=g.1;omega
   obtain⟨m,hm,g'⟩:=g.step hd';refine(a00 (L51 (i:=c) hd') ?_ :);exact⟨m,hm,rfl,d,c % d,rfl,g',(A41 c d).trans hg,λ_=>Int.le_of_lt hd'⟩
  ·rw[È5,beq_iff_eq] at hd;subst hd;rw[Int.gcd_zero_right] at hg;have e:c=((gcd t b:Nat):Int):=by have:=hc rfl;omega
   subst e;refine(a00 (L81 (i:=t) (p50 (t:=t) h0) (N60 h0 h1)) ?_ :);refine(a00 (L81 (i:=b) (p50 (t:=t) h0) (N60 h0 h1)) ?_ :);exact sd rfl
structure Bd(n:Nat)(c:Int × Int):Prop where
 t0:0<=c.1
 tb:c.1<=c.2
 b0:0 < c.2
 bb:c.2<=2 ^ n
theorem y40(h:n<=3999)(hi:i<=2 ^ n):big i:=by
 refine Õ8 hi ?_;have h2:(2:Nat) ^ n < 2 ^ 4000:=Nat.pow_lt_pow_right (-0) ∅
 have e:((2 ^ n:Nat):Int) < ((2 ^ 4000:Nat):Int):=Int.ofNat_lt.mpr h2
 rwa [Ï7,Ï7] at e
theorem N70(h0:0 < b):t=gcd t b * (j40 t b).1/\b=gcd t b * (j40 t b).2:=by
 constructor
 ·exact(Int.mul_ediv_cancel' (Int.gcd_dvd_left t b)).symm
 ·exact(Int.mul_ediv_cancel' (Int.gcd_dvd_right t b)).symm
theorem c41(h0:0 < b):gcd (j40 t b).1 (j40 t b).2=1:=Int.gcd_ediv_gcd_ediv_gcd_of_ne_zero_right ∅
theorem y50(h0:0 < b):0 < (j40 t b).2:=by
 have g0:=p50 (t:=t) h0;obtain⟨_,e⟩:=N70 (t:=t) h0;refine Int.pos_of_mul_pos_right (a:=gcd t b) ?_ g0;omega
theorem c92(h0:0 < b)(h1:0<=t)(h2:t<=b):0<=(j40 t b).1/\(j40 t b).1<=(j40 t b).2/\(j40 t b).2<=b:=by
 have g0:=p50 (t:=t) h0;have p0:=y50 (t:=t) h0;obtain⟨e1,e2⟩:=N70 (t:=t) h0;refine⟨Ú7 h1 (Ê0 g0),Int.le_of_mul_le_mul_left (a:=gcd t b) ∅ g0,?_⟩
 have:1 * (j40 t b).2<=(gcd t b:Int) * (j40 t b).2:=Int.mul_le_mul_of_nonneg_right ∅ ∅
 omega
theorem B51(h:gcd a b=1)(hd:b∣a * d):b∣d:=by
 have h1:Nat.Coprime b.natAbs a.natAbs:=by rw[Nat.coprime_comm];exact h
 exact Int.natAbs_dvd_natAbs.mp (h1.dvd_of_dvd_mul_left (by rw[← natAbs_mul];exact Int.natAbs_dvd_natAbs.mpr hd))
theorem n51(hb:0 < b)(hd:0 < d)(h1:gcd a b=1)(h2:gcd c d=1)(h:a * d=c * b):a=c/\b=d:=by
 have k1:b∣d:=B51 h1 ⟨c,by rw[h,Ç8]⟩
 have k2:d∣b:=B51 h2 ⟨a,by rw[← h,Ç8]⟩
 have e:b=d:=Int.le_antisymm (le_of_dvd hd k1) (le_of_dvd hb k2);subst e;exact⟨Î3 ∅ h,rfl⟩
def IsC(c:Int × Int):Prop:=1<=c.2/\c.2<=1000/\0<=c.1/\c.1<=c.2/\gcd c.1 c.2=1
theorem IsC.ch(h:IsC c):chD (pr c)=true:=by
 obtain⟨h1,h2,h3,h4,h5⟩:=h;show chI c.1 c.2=true;unfold chI;rw[h5,decide_eq_true h1,decide_eq_true h2,decide_eq_true h3,decide_eq_true h4];rfl
theorem d02(h0:0 < b)(hb:b<=1000)(h1:0<=t)(h2:t<=b):IsC (j40 t b):=by
 obtain⟨y0,yx,xb⟩:=c92 h0 h1 h2;have:=y50 (t:=t) h0;exact⟨by omega,by omega,y0,yx,c41 h0⟩
theorem U90(k:Nat)(hz:ZI z):W (a70 T (k + 4) w30 [.z]) z (λs z1=>ZI z1/\∃ c,s=.d (pr c)/\IsC c) NE:=by
 refine L61 hz (ps:=1) (ns:=3) (b:=m90) rfl rfl (-0) ?_
 refine(d80 k 8 hz (-0) (-0)).imp λs z1 ⟨hz1,v,e,v1⟩=>?_
 subst e;refine ib (b:=decide ((v:Int) < 2)) (λh2=>?_) λh2=>?_
 ·rw[decide_eq_true_eq] at h2;have:v=0∨v=1:=by omega
  rcases this with rfl | rfl
  ·exact⟨hz1,(0,1),rfl,by decide,by decide,by decide,by decide,by decide⟩
  ·exact⟨hz1,(1,1),rfl,by decide,by decide,by decide,by decide,by decide⟩
 ·rw[decide_eq_false_iff_not] at h2;refine(d80 k 12 hz1 (-0) (-0)).imp λs z2 ⟨hz2,a,e,a1⟩=>?_
  subst e;refine(d80 k 1000 hz2 (-0) (-0)).imp λs z3 ⟨hz3,b,e,b1⟩=>?_
  subst e;obtain⟨x,ex,hx⟩:=N40 (L:=[D.int 2,.int 3,.int 4,.int (1 + a),.int (1 + b),.int 1000]) (n:=v - 2) (btw 1 1000) (by simp only[Ô,Ã0];omega) (by
   simp only[Â1,all_nil,Ï4,Á];refine⟨rfl,rfl,rfl,U60 ?_ ?_,U60 ?_ ?_,rfl⟩ <;> omega)
  obtain⟨u,rfl,u1,u2⟩:=i91 hx;have e2:(v:Int) - 2=((v - 2:Nat):Int):=by omega
  refine(a00 (o:=L40 (.lst [D.int 2,.int 3,.int 4,.int (1 + a),.int (1 + b),.int 1000]) (.int ((v:Int) - 2))) (a:=.int u) (by rw[e2];exact N30 ex) ?_ :)
  refine(d80 k (u + 1) hz3 ∅ ∅).imp λs z4 ⟨hz4,t,e,t1⟩=>?_
  subst e;exact Wo (y30 k _ _ _ ∅ (l60 ∅)) ⟨hz4,j40 t u,rfl,d02 ∅ u2 ∅ ∅⟩
theorem N80(k:Nat){m:Int}{ts:List D}{z:Z}(hz:ZI z)(hl:ts.length<=8):W (a70 T (k + 5) s50 [.z,.d (.tup [.int m,.tup ts])]) z (λs z1=>ZI z1/\∃ cs:List (Int × Int),s=.d (.tup (cs.map pr))/\cs.length=ts.length/\∀ c∈cs,IsC c) NE:=by
 refine L61 hz (ps:=2) (ns:=2) (b:=k40) rfl rfl (-0) (ip (y10 ∅) (R52 (I:=ZI) (P:=λ_ y=>∃ c,y=pr c/\IsC c) hz (λx hx z1 hz1=>?_) λys z1 hz1 hp=>?_))
 ·refine(U90 k hz1).imp λs z2 ⟨hz2,c,e,hc⟩=>?_;subst e;exact⟨hz2,c,rfl,hc⟩
 ·obtain⟨cs,rfl,hl,ha⟩:=U70 hp;exact⟨hz1,cs,rfl,hl,ha⟩
theorem S11{cs:List (Int × Int)}{n:Nat}(h:cs.length=n)(ha:∀ c∈cs,IsC c):N00 n (.tup (cs.map pr))=true:=by
 unfold N00;rw[Á,beq_iff_eq,È,Ã6];refine⟨h,λd hd=>?_⟩;obtain⟨c,hc,rfl⟩:=á.mp hd;exact(ha c hc).ch
theorem B61{n:Nat}(f:D->Bool)(h:n < L.length)(ha:L.all f=true)(hp:∀ x,f x=true->P x):Get (L40 (.lst L) (.int n)) P:=by
 obtain⟨x,e,hx⟩:=N40 f h ha;exact a00 (N30 e) (hp x hx)
theorem B71(k:Nat)(hz:ZI z):W (a70 T (k + 4) s60 [.z]) z (λs z1=>ZI z1/\∃ x,s=.d x/\O90 x=false) NE:=by
 refine L61 hz (ps:=1) (ns:=2) (b:=k50) rfl rfl (-0) ?_
 refine(d80 k 22 hz (-0) (-0)).imp λs z1 ⟨hz1,v,e,v1⟩=>?_
 subst e;refine(B61 (n:=v) (λx=>!O90 x) ?_ ?_ ?_ :)
 ·show v < 22;omega
 ·decide +kernel
 ·exact λx hx=>⟨hz1,x,rfl,by simpa using hx⟩
def ltP:D->Bool
 |.tup [.int a,.int b]=>decide (a < b)|_=>false
def j21(l:List D):Bool:=(s10 l (l.drop 1)).all ltP
def M01(m:Int):D->Bool
 |.tup l=>(l.all (λx=>c50 x m)&&j21 l)&&!l.isEmpty|_=>false
def short:D->Bool
 |.tup l=>decide (l.length<=1000)|_=>true
theorem M11(k:Nat)(h:∀ x∈l,c50 x m=true)(hl:l.length<=1000)(z:Z):a70 T (k + 3) z91 [.d (.tup l)] z=some (.ok (.d (.bl (j21 l))) z):=by
 have e1:cutD l (some 1) none=l.drop 1:=j90 l 1;refine W.ok (g00 (ps:=1) (ns:=1) (b:=b61) rfl rfl (-0) (ip (c:=(s10 l (cutD l (some 1) none)).length<=most) (Þ (w40 _ _) (y10 hl)) (i11 (λx=>.bl (ltP x)) (λx hx=>?_) (a00 (A40 _ ltP) ?_ :))))
 ·obtain⟨u,hu,v,hv,rfl⟩:=b81 hx;rw[e1] at hv;obtain⟨i,rfl,_⟩:=l50 (h u hu);obtain⟨j,rfl,_⟩:=l50 (h v (Ó4 hv));exact⟨rfl,rfl⟩
 ·exact sb (b:=(s10 l (cutD l (some 1) none)).all ltP) (by rw[e1];rfl)
theorem A70(k:Nat)(m:Int)(hs:short x=true)(z:Z):a70 T (k + 5) l30 [.d x,.d (.int m)] z=some (.ok (.d (.bl (match x with | .tup l=>l.all (λx=>c50 x m)&&j21 l | _=>false))) z):=by
 refine W.ok (g00 (ps:=2) (ns:=2) (b:=f60) rfl rfl (-0) ?_)
 cases x with
 |tup l =>
  have hl:l.length<=1000:=of_decide_eq_true hs;refine ip (y10 hl) (i11 (λx=>.bl (c50 x m)) (λx _=>Wo (u00 k x m z) ⟨rfl,rfl⟩) (a00 (A40 l λx=>c50 x m) ?_ :));refine ib (b:=l.all λx=>c50 x m) (λh=>?_) λh=>sb (show false=(l.all (λx=>c50 x m)&&j21 l) by rw[h];rfl)
  exact Wo (M11 (k + 1) (ç.mp h) hl z) (sb (show j21 l=(l.all (λx=>c50 x m)&&j21 l) by rw[h];rfl))
 |_=>exact sb rfl
theorem p60(k:Nat)(z:Z)(h:M01 m x=true)(hs:short x=true):a70 T (k + 6) g20 [.d (.tup [.int m,t]),.d x] z=some (.ok (.d .non) z):=by
 refine W.ok (g00 (ps:=2) (ns:=2) (b:=g40) rfl rfl (-0) (Wo (A70 k m hs z) ?_))
 cases x with
 |tup l =>
  have h:((l.all (λx=>c50 x m)&&j21 l)&&!l.isEmpty)=true:=h;rw[Á] at h;refine ie (b:=!(l.all (λx=>c50 x m)&&j21 l)) (by rw[h.1];rfl) ?_
  cases l with
  |nil=>cases h.2
  |cons y r=>exact sd rfl
 |_=>cases h
theorem F90(k:Nat)(z:Z)(h:M01 m x=false)(hs:short x=true):a70 T (k + 6) g20 [.d (.tup [.int m,t]),.d x] z=some (.er 2 z):=by
 refine W.er (g00 (ps:=2) (ns:=2) (b:=g40) rfl rfl (-0) (Wo (A70 k m hs z) ?_))
 cases x with
 |tup l =>
  have h:((l.all (λx=>c50 x m)&&j21 l)&&!l.isEmpty)=false:=h;refine ib (b:=!(l.all (λx=>c50 x m)&&j21 l)) (λ_=>⟨rfl,d20 z⟩) λh1=>?_;rw[È5] at h1;rw[h1,Æ4,È5] at h;cases l with
  |nil=>exact⟨rfl,d20 z⟩|cons y r=>cases h
 |_=>exact⟨rfl,d20 z⟩
theorem V00(k:Nat){m:Int}(m1:1<=m)(hz:ZI z):W (a70 T (k + 4) l40 [.z,.d (.tup [.int m,t])]) z (λs z1=>ZI z1/\∃ x,s=.d x/\M01 m x=false/\short x=true) NE:=by
 refine L61 hz (ps:=2) (ns:=3) (b:=f70) rfl rfl (-0) ?_
 refine(d80 k 13 hz (-0) (-0)).imp λs z1 ⟨hz1,v,e,v1⟩=>?_
 subst e;refine(B61 (n:=v) (λx=>!M01 m x&&short x) ?_ ?_ ?_ :)
 ·show v < 13;omega
 ·show List.all [.tup [],.non,.tup [.int m],.tup [.int (-1)],.tup [.int 0,.int 0],.lst [.int 0],.dct,.int 0,.tup [.bl true],.tup [.str "0"],.tup [.non],.tup [.int m,.int 0],.tup [.tup [.int 0]]] (λx=>!M01 m x&&short x)=true;simp[M01,j21,c50,short,s10,ltP]
 ·exact λx hx=>by
   rw[Á,ð] at hx;exact⟨hz1,x,rfl,hx.1,hx.2⟩
def c60(n:Nat):D:=.int n
structure f90(m:Int)(l:List Nat):Prop where
 ne:l≠[]
 up:l.Pairwise (· < ·)
 lt:∀ p∈l,(p:Int) < m
theorem S21:∀ {l:List Nat},l.Pairwise (· < ·)->j21 (l.map c60)=true
 |[],_=>rfl|[_],_=>rfl
 |a::b::r,h=>by
  have ih:=S21 (Ü5.of_cons h);show(decide ((a:Int) < (b:Int))&&j21 ((b::r).map c60))=true;rw[ih,decide_eq_true (by have:=(Í5.mp h).1 b Ê;omega)];rfl
theorem f90.pls(g:f90 m l):M01 m (.tup (l.map c60))=true:=by
 show(((l.map c60).all (λx=>c50 x m)&&j21 (l.map c60))&&!(l.map c60).isEmpty)=true;rw[S21 g.up,Ï4,Á];refine⟨ç.mpr λx hx=>?_,?_⟩
 ·obtain⟨p,hp,rfl⟩:=á.mp hx;have:=g.lt p hp;show(decide (0<=(p:Int))&&decide ((p:Int) < m))=true;rw[decide_eq_true this,decide_eq_true ∅];rfl
 ·cases l with
  |nil=>exact absurd rfl g.ne|cons _ _=>rfl
theorem f90.len(g:f90 m l)(h6:m<=6):l.length<=6:=by
 have:l.Sublist (î 6):=by
  have e:l=(î 6).filter λx=>l.contains x:=by
   refine Ù3 (le:=(· < ·)) ?_ g.up (Ù4 _ Ñ3) ?_
   ·intro a b _ _ h1 h2;omega
   ·refine(List.perm_ext_iff_of_nodup (g.up.imp λh e=>by omega) (Ù4 _ List.nodup_range)).mpr λa=>?_
    rw[Ù8,Å7,Ò7];exact⟨λh=>⟨by have:=g.lt a h;omega,h⟩,λh=>h.2⟩
  rw[e];exact List.filter_sublist
 simpa using this.length_le
theorem M21:∀ {ys:List D}{l:List Nat},ys.Sublist (l.map c60)->∃ l':List Nat,ys=l'.map c60/\l'.Sublist l:=λ{ys l} h=>by
 obtain⟨l',h1,h2⟩:=List.sublist_map_iff.mp h;exact⟨l',h2,h1⟩
theorem d12(n:Nat):((î n).map λ(i:Nat)=>D.int i)=(î n).map c60:=rfl
theorem V10(k:Nat)(m1:1<=m)(m6:m<=6)(hz:ZI z):W (a70 T (k + 4) w20 [.z,.d (.tup [.int m,t])]) z (λs z1=>ZI z1/\∃ l,s=.d (.tup (l.map c60))/\f90 m l) NE:=by
 refine L61 hz (ps:=2) (ns:=3) (b:=m80) rfl rfl (-0) ?_
 refine(a00 (N10 (m:=m) ∅ ∅) ?_ :)
 refine ip (by rw[È,þ];simp only[most];omega) (s92 (I:=ZI) (λx=>x) hz (λx hx z1 hz1=>?_) λys z1 hz1 hs=>?_)
 ·refine(d80 k 2 hz1 (-0) (-0)).imp λs z2 ⟨hz2,a,e,a1⟩=>?_
  subst e;exact⟨hz2,(a:Int) == 0,rfl,λ_=>⟨rfl,rfl⟩⟩
 ·rw[List.map_id',d12] at hs;obtain⟨l,rfl,hl⟩:=M21 hs;have up:l.Pairwise (· < ·):=Ü5.sublist hl Ñ3;have lt:∀ p∈l,(p:Int) < m:=λp hp=>by have:=Å7.mp (hl.mem hp);omega
  have g1:∀ p:Nat,(p:Int) < m->f90 m [p]:=λp hp=>⟨by simp,.cons (λ_ h=>nomatch h) .nil,λq hq=>by rw[ÿ.mp hq];exact hp⟩
  have g2:f90 m (î m.toNat):=⟨by intro h;have:=congrArg List.length h;rw[þ] at this;simp at this;omega,Ñ3,λp hp=>by have:=Å7.mp hp;omega⟩
  have fin:∀ (L:List D) (v:Nat) (z2:Z),L.length=3->v < 3->ZI z2->(∀ x∈L,∃ l,x=.tup (l.map c60)/\f90 m l)->∃ x,L40 (.lst L) (.int v)=some x/\(ZI z2/\∃ l,S.d x=.d (.tup (l.map c60))/\f90 m l):=λL v z2 h3 hv hz2 h=>by
   have hlt:v < L.length:=by omega
   obtain⟨l,e,g⟩:=h _ (Á2 hlt);exact⟨L[v],N30 (Ð hlt),hz2,l,by rw[e],g⟩
  have e1:(m - 1)=((m.toNat - 1:Nat):Int):=by omega
  cases l with
  |nil =>
   refine(a00 (N10 (m:=m) ∅ ∅) ?_ :)
   refine(d80 k 3 hz1 (-0) (-0)).imp λs z2 ⟨hz2,v,e,v1⟩=>?_
   subst e;obtain⟨x,ex,q⟩:=fin [.tup [.int 0],.tup ((î m.toNat).map λ(i:Nat)=>D.int i),.tup [.int (m - 1)]] v z2 rfl ∅ hz2 λx hx=>by
    simp only[Á7,Á6,or_false] at hx;rcases hx with rfl | rfl | rfl
    ·exact⟨[0],rfl,g1 0 ∅⟩
    ·exact⟨_,rfl,g2⟩
    ·exact⟨[m.toNat - 1],by rw[e1];rfl,g1 _ ∅⟩
   refine(a00 ex ?_ :);exact q
  |cons p r =>
   refine(a00 (N10 (m:=m) ∅ ∅) ?_ :)
   refine(d80 k 3 hz1 (-0) (-0)).imp λs z2 ⟨hz2,v,e,v1⟩=>?_
   subst e;obtain⟨x,ex,q⟩:=fin [.tup ((p::r).map c60),.tup ((î m.toNat).map λ(i:Nat)=>D.int i),.tup ((p::r).map c60)] v z2 rfl ∅ hz2 λx hx=>by
    simp only[Á7,Á6,or_false] at hx;rcases hx with rfl | rfl | rfl
    ·exact⟨_,rfl,by simp,up,lt⟩
    ·exact⟨_,rfl,g2⟩
    ·exact⟨_,rfl,by simp,up,lt⟩
   refine(a00 ex ?_ :);exact q
section
variable (ps:List (Int × Int))
abbrev tA(n:Nat):Nat:=(ps.getD n (0,0)).1.toNat
abbrev tB(n:Nat):Nat:=(ps.getD n (0,0)).2.toNat
def p70(mk:List Int)(n:Nat):List Int:=mk.map λx=>if x=mk.getD (tB ps n) 0 then mk.getD (tA ps n) 0 else x
def n60(m:Nat)(lot:List Nat):List Int:=lot.foldl (p70 ps) ((î m).map λ(i:Nat)=>(i:Int))
def d22(mk:List Int)(pl:List Nat):Bool:=pl.all λp=>mk.getD p 0 == mk.getD (pl.getD 0 0) 0
def n80(m:Nat)(pl lot:List Nat):Bool:=d22 (n60 ps m lot) pl
variable {ps}
theorem C20(mk:List Int)(n:Nat):(p70 ps mk n).length=mk.length:=È _
theorem step_get(h:x < mk.length):(p70 ps mk n).getD x 0=if mk.getD x 0=mk.getD (tB ps n) 0 then mk.getD (tA ps n) 0 else mk.getD x 0:=by
 unfold p70;rw[Ó,Ø,Ð h];simp[Ó,Ð h]
theorem V20:(n60 ps m lot).length=m:=by
 unfold n60;have:∀ (l:List Nat) (mk:List Int),(l.foldl (p70 ps) mk).length=mk.length:=by
  intro l
  induction l with
  |nil=>intro mk;rfl|cons n r ih=>intro mk;rw[List.foldl_cons,ih,C20]
 rw[this];simp
theorem n61(hr:∀ n < ps.length,tA ps n < m/\tB ps n < m):∀ (lot:List Nat) (mk:List Int),mk.length=m->(∀ n∈lot,n < ps.length) ->
  (∀ x y,x < m->y < m->mk.getD x 0=mk.getD y 0->(lot.foldl (p70 ps) mk).getD x 0=(lot.foldl (p70 ps) mk).getD y 0)/\(∀ n∈lot,(lot.foldl (p70 ps) mk).getD (tA ps n) 0=(lot.foldl (p70 ps) mk).getD (tB ps n) 0) /\
  ∀ f:Nat->Int,(∀ x y,x < m->y < m->mk.getD x 0=mk.getD y 0->f x=f y)->(∀ n∈lot,f (tA ps n)=f (tB ps n))->∀ x y,x < m->y < m->(lot.foldl (p70 ps) mk).getD x 0=(lot.foldl (p70 ps) mk).getD y 0->f x=f y:=by
 intro lot
 induction lot with
 |nil=>exact λmk _ _=>⟨λ_ _ _ _ h=>h,(λ_ h=>nomatch h),λf h _=>h⟩
 |cons n r ih =>
  intro mk hl hn;obtain⟨ha,hb⟩:=hr n (hn n Ê);obtain⟨i1,i2,i3⟩:=ih (p70 ps mk n) (by rw[C20];exact hl) λk hk=>hn k (É _ hk)
  have st:∀ x,x < m->(p70 ps mk n).getD x 0=if mk.getD x 0=mk.getD (tB ps n) 0 then mk.getD (tA ps n) 0 else mk.getD x 0:=λx hx=>step_get ∅
  refine⟨λx y hx hy h=>i1 x y hx hy (by rw[st x hx,st y hy,h]),λk hk=>?_,λf h1 h2=>?_⟩
  ·rcases ô.mp hk with rfl | hk
   ·refine i1 _ _ ha hb ?_;rw[st _ ha,st _ hb,if_pos rfl];split <;> rfl
   ·exact i2 k hk
  ·refine i3 f (λx y hx hy h=>?_) λk hk=>h2 k (É _ hk);have e:=h2 n Ê;rw[st x hx,st y hy] at h;split at h
   ·rename_i hxb;have fx:=h1 _ _ hx hb hxb;split at h
    ·rename_i hyb;rw[fx,h1 _ _ hy hb hyb]
    ·rw[fx,← e];exact h1 _ _ ha hy h
   ·split at h
    ·rename_i hyb;rw[h1 _ _ hy hb hyb,← e];exact h1 _ _ hx ha h
    ·exact h1 _ _ hx hy h
theorem V30(h:x < m):(((î m).map λ(i:Nat)=>(i:Int))).getD x 0=(x:Int):=by
 rw[Ó,Ø,Ì3 h];rfl
theorem j31{m:Nat}(hr:∀ n < ps.length,tA ps n < m/\tB ps n < m){pl lot:List Nat}(hp:∀ p∈pl,p < m)(hl:∀ n∈lot,n < ps.length):n80 ps m pl lot=true↔∀ f:Nat->Int,(∀ n∈lot,f (tA ps n)=f (tB ps n))->∀ p∈pl,f p=f (pl.getD 0 0):=by
 obtain⟨_,h2,h3⟩:=n61 hr lot ((î m).map λ(i:Nat)=>(i:Int)) (by simp) hl
 unfold n80 d22;rw[Ã6];have h0:∀ p∈pl,pl.getD 0 0 < m:=λp hp'=>by
  cases pl with
  |nil=>cases hp'
  |cons q r=>exact hp q Ê
 constructor
 ·intro h f hf p hp';refine h3 f (λx y hx hy e=>?_) hf p _ (hp p hp') (h0 p hp') (beq_iff_eq.mp (h p hp'));rw[V30 hx,V30 hy] at e;rw[Int.ofNat_inj.mp e]
 ·intro h p hp';rw[beq_iff_eq];exact h (λx=>(n60 ps m lot).getD x 0) h2 p hp'
theorem good_mono{m:Nat}(hr:∀ n < ps.length,tA ps n < m/\tB ps n < m){pl a b:List Nat}(hp:∀ p∈pl,p < m)(hb:∀ n∈b,n < ps.length)(hab:∀ n∈a,n∈b)(h:n80 ps m pl a=true):n80 ps m pl b=true :=
 (j31 hr hp hb).mpr λf hf=>(j31 hr hp λn hn=>hb n (hab n hn)).mp h f λn hn=>hf n (hab n hn)
end
section
variable (g:List Nat->Bool) (c:Nat->Int × Int)
def tot:List Nat->List Nat->Int
 |[],h=>if g h then 1 else 0|n::r,h=>(c n).1 * tot r (n::h) + ((c n).2 - (c n).1) * tot r h
def B81(ns:List Nat):Int:=(ns.map λn=>(c n).2).foldr (· * ·) 1
variable {g c}
theorem V40(n:Nat)(r:List Nat):B81 c (n::r)=(c n).2 * B81 c r:=rfl
def v32(N:Nat)(g:List Nat->Bool):Prop:=∀ a b:List Nat,(∀ n∈a,n < N)->(∀ n∈b,n < N)->(∀ n,n∈a↔n∈b)->g a=g b
theorem N90(hg:v32 N g):∀ (ns a b:List Nat),(∀ n∈ns,n < N)->(∀ n∈a,n < N)->(∀ n∈b,n < N)->(∀ n,n∈a↔n∈b)->tot g c ns a=tot g c ns b
 |[],a,b,_,ha,hb,h=>by unfold tot;rw[hg a b ha hb h]
 |n::r,a,b,hn,ha,hb,h=>by
  have hr:∀ k∈r,k < N:=λk hk=>hn k (É _ hk);have hc:∀ {l:List Nat},(∀ n∈l,n < N)->∀ k∈n::l,k < N:=λhl k hk=>by
   rcases ô.mp hk with rfl | hk
   ·exact hn _ Ê
   ·exact hl k hk
  unfold tot;rw[N90 hg r a b hr ha hb h,N90 hg r (n::a) (n::b) hr (hc ha) (hc hb) λk=>by rw[Á7,Á7,h k]]
theorem M31(hg:v32 N g)(h:a.Perm b):∀ held:List Nat,(∀ n∈a,n < N)->(∀ n∈held,n < N)->tot g c a held=tot g c b held:=by
 induction h with
 |nil=>exact λ_ _ _=>rfl
 |cons x h ih =>
  intro held ha hh;have hr:=λk hk=>ha k (É _ hk);unfold tot;rw[ih held hr hh,ih (x::held) hr λk hk=>by
   rcases ô.mp hk with rfl | hk
   ·exact ha _ Ê
   ·exact hh k hk]
 |swap x y l =>
  intro held ha hh;have hl:∀ k∈l,k < N:=λk hk=>ha k (É _ (É _ hk));have hx:=ha x (É _ Ê);have hy:=ha y Ê;have hxy:∀ k∈[x,y]++held,k < N:=λk hk=>by
   simp only[Ð0,É1,Á7] at hk;rcases hk with rfl | rfl | hk
   ·exact hx
   ·exact hy
   ·exact hh k hk
  have e:=N90 (c:=c) hg l (x::y::held) (y::x::held) hl hxy (λk hk=>hxy k (by simp only[Ð0,É1,Á7] at hk ⊢;rcases hk with h | h | h <;> simp[h])) λk=>by simp only[Á7];constructor <;> (rintro (h | h | h) <;> simp[h])
  simp only[tot];rw[e];generalize tot g c l (y::x::held)=t1;generalize tot g c l (y::held)=t2;generalize tot g c l (x::held)=t3;generalize tot g c l held=t4;generalize (c x).1=p;generalize (c x).2=q;generalize (c y).1=u;generalize (c y).2=v
  grind
 |trans h1 h2 i1 i2=>exact λheld ha hh=>(i1 held ha hh).trans (i2 held (λk hk=>ha k (h1.mem_iff.mpr hk)) hh)
def d70:Nat->List (List Nat)
 |0=>[[]]|j + 1=>d70 j++(d70 j).map (·++[j])
def amt(c:Nat->Int × Int)(j:Nat)(lot:List Nat):Int:=(î j).foldl (λa n=>a * (if n∈lot then(c n).1 else(c n).2 - (c n).1)) 1
theorem n10:amt c (j + 1) lot=amt c j lot * (if j∈lot then(c j).1 else(c j).2 - (c j).1):=by
 unfold amt;rw[range_succ,List.foldl_append];rfl
theorem d32(h:j<=k):amt c j (lot++[k])=amt c j lot:=by
 induction j with
 |zero=>rfl
 |succ j ih =>
  rw[n10,n10,ih ∅]
  have:j∈lot++[k]↔j∈lot:=by rw[Â3,ÿ];constructor <;> (intro h;first | (rcases h with h | h;exact h;omega) | exact .inl h)
  simp only[this]
theorem y60:∀ {j:Nat}{lot:List Nat},lot∈d70 j->∀ n∈lot,n < j
 |0,lot,h,n,hn=>by rw[ÿ.mp h] at hn;cases hn
 |j + 1,lot,h,n,hn=>by
  rcases Â3.mp h with h | h
  ·exact Ë5 (y60 h n hn)
  ·obtain⟨l,hl,rfl⟩:=á.mp h;rcases Â3.mp hn with hn | hn
   ·exact Ë5 (y60 hl n hn)
   ·rw[ÿ.mp hn];exact Ù2 j
def desc:Nat->List Nat
 |0=>[]|j + 1=>j::desc j
def w60(l:List (List Nat))(f:List Nat->Int):Int:=(l.map f).foldr (· + ·) 0
theorem M41:w60 (a++b) f=w60 a f + w60 b f:=by
 unfold w60;rw[Ã9]
 induction a with
 |nil=>simp|cons x r ih=>simp only[Å1,Ð0,List.foldr_cons,ih,Int.add_assoc]
theorem j41(e:∀ x∈a,h x=k * f x):w60 a h=k * w60 a f:=by
 unfold w60
 induction a with
 |nil=>simp|cons x r ih=>simp only[Å1,List.foldr_cons,ih λy hy=>e y (É _ hy),e x Ê,Int.mul_add]
theorem M51:w60 (a.map t) f=w60 a λx=>f (t x):=by
 unfold w60;rw[ù];rfl
theorem O00(hg:v32 N g):∀ (j:Nat) (held:List Nat),j<=N->(∀ n∈held,n < N)->w60 (d70 j) (λlot=>if g (lot++held) then amt c j lot else 0)=tot g c (desc j) held
 |0,held,_,_=>by
  show(if g ([]++held) then amt c 0 [] else 0) + 0=_;rw[Int.add_zero];rfl
 |j + 1,held,hj,hh=>by
  have hc:∀ k∈j::held,k < N:=λk hk=>by
   rcases ô.mp hk with rfl | hk
   ·omega
   ·exact hh k hk
  show w60 (d70 j++(d70 j).map (·++[j])) _=(c j).1 * tot g c (desc j) (j::held) + ((c j).2 - (c j).1) * tot g c (desc j) held;rw[M41,M51,← O00 hg j held ∅ hh,← O00 hg j (j::held) ∅ hc,Int.add_comm]
  congr 1
  ·refine j41 λlot hl=>?_;have lt:=y60 hl;have e:g (lot++[j]++held)=g (lot++j::held):=by rw[Ê4];rfl
   rw[e];split
   ·rw[n10,d32 (Ë j),if_pos (by simp),Ç8]
   ·rw[Int.mul_zero]
  ·refine j41 λlot hl=>?_;have lt:=y60 hl;split
   ·rw[n10,if_neg (λh=>À3 _ (lt j h)),Ç8]
   ·rw[Int.mul_zero]
theorem V50:∀ n:Nat,(desc n).Perm (î n)
 |0=>.refl _
 |n + 1=>by
  rw[range_succ];exact((V50 n).cons n).trans (Û3 n (î n)).symm
end
theorem itE{it:It}{e:Ex}{l:List S}{ρ:Env}(h:R80 l=true):u01 it e l ρ=R90 it e l ρ:=by unfold u01;rw[h,R70];rfl
theorem y70:∀ l:List Nat,j10 (l.map c60)=true
 |[]=>rfl|_::r=>y70 r
structure Row(x:D)(lot:List Nat):Prop where
 sq:Z10 x=some (lot.map c60)
 br:W81 x=true
theorem Row.t(lot:List Nat):Row (.tup (lot.map c60)) lot:=⟨rfl,y70 lot⟩
theorem Row.ba(h:Row x lot):R80 [.d x]=true:=by
 show(W81 x&&true)=true;rw[h.br];rfl
theorem V60{mk:List Int}{a:Int}(h0:0<=a)(h:a.toNat < mk.length):L40 (.lst (mk.map D.int)) (.int a)=some (.int (mk.getD a.toNat 0)):=by
 obtain⟨n,rfl⟩:=É3 h0;rw[Ã2] at h ⊢;rw[Ó,Ð h];exact N30 (y20 h)
theorem S31{ps:List (Int × Int)}{n:Nat}(h:n < ps.length):L40 (.tup (ps.map pr)) (.int n)=some (pr (ps.getD n (0,0))):=by
 rw[Ó,Ð h];exact c31 (by rw[Ø,Ð h];rfl)
theorem getD_mem{ps:List (Int × Int)}{n:Nat}(h:n < ps.length):ps.getD n (0,0)∈ps:=by
 rw[Ó,Ð h];exact Á2 h
theorem f80.rng{m:Int}{ps:List (Int × Int)}(g:f80 m ps):∀ n < ps.length,tA ps n < m.toNat/\tB ps n < m.toNat:=λn hn=>by
 have:=g.tie _ (getD_mem hn);unfold tA tB;omega
def J32(a b:Int):D->D
 |.int v=>.int (if v=b then a else v)|x=>x
theorem B91{F:FT}{z:Z}{mk:List Int}(a b:Int){Q:List D->Z->Prop}{E:Nat->Z->Prop}(q:Q ((mk.map λx=>if x=b then a else x).map D.int) z):W (turns (r60 (ev F .nil) (ev F (.ite (.cmp .eq (.var 0) (.var 2)) (.var 1) (.var 0))) (.v 0) [none,some (.d (.int a)),some (.d (.int b))]) (mk.map D.int)) z Q E:=by
 refine i11 (J32 a b) (λx hx=>?_) ?_
 ·obtain⟨v,_,rfl⟩:=á.mp hx;refine ib (b:=v == b) (λh=>⟨?_,rfl⟩) λh=>⟨?_,rfl⟩
  ·show D.int a=.int (if v=b then a else v);rw[if_pos (beq_iff_eq.mp h)]
  ·show D.int v=.int (if v=b then a else v);rw[if_neg (by simpa using h)]
 ·have e:(mk.map D.int).map (J32 a b)=(mk.map λx=>if x=b then a else x).map D.int:=by rw[ù,ù];rfl
  rw[e];exact q
theorem c51(k:Nat){m:Int}{ps:List (Int × Int)}(g:f80 m ps){x:D}{lot:List Nat}(hx:Row x lot)(hl:∀ n∈lot,n < ps.length)(z:Z):a70 T (k + 3) I00 [.d (G10 m ps),.d x] z=some (.ok (.fr ((n60 ps m.toNat lot).map D.int)) z):=by
 have m6:=g.m6;have m1:=g.m1;refine W.ok (g00 (ps:=2) (ns:=10) (b:=x90) rfl rfl (-0) ?_)
 refine(a00 (o:=lrD [.int m]) (N10 ∅ ∅) ?_ :)
 refine a00 (o:=Z10 x) hx.sq ?_;refine o70 (λxs ρ z1=>z1=z/\∃ (rest:List Nat) (mk:List Int) (o5 o6 o7 o8 o9:Option S),xs=rest.map c60/\(∀ n∈rest,n < ps.length)/\mk.length=m.toNat/\rest.foldl (p70 ps) mk=n60 ps m.toNat lot/\ρ=[some (.d (G10 m ps)),some (.d x),some (.d (.int m)),some (.d (.tup (ps.map pr))),some (.fr (mk.map D.int)),o5,o6,o7,o8,o9]) _ ⟨rfl,lot,(î m.toNat).map λ(i:Nat)=>(i:Int),none,none,none,none,none,rfl,hl,by simp,rfl,(itE hx.ba).trans ?_⟩ ?_ ?_
 ·rw[← N20];rfl
 ·rintro y r ρ z1 ⟨rfl,rest,mk,o5,o6,o7,o8,o9,e,hr,hm,hf,rfl⟩;cases rest with
  |nil=>cases e
  |cons n rest =>
   cases e;have hn:=hr n Ê;have ht:=g.tie _ (getD_mem hn);refine(a00 (S31 hn) ?_ :);refine(a00 (V60 (mk:=mk) ht.1 ∅) ?_ :)
   refine(a00 (V60 (mk:=mk) (a:=(ps.getD n (0,0)).2) ∅ ∅) ?_ :)
   refine ip (by rw[È];simp only[most];omega) (B91 _ _ ?_)
   exact⟨rfl,rest,p70 ps mk n,_,_,_,_,_,rfl,λk hk=>hr k (É _ hk),by rw[C20];exact hm,hf,rfl⟩
 ·rintro ρ z1 ⟨rfl,rest,mk,o5,o6,o7,o8,o9,e,hr,hm,hf,rfl⟩;cases rest with
  |nil=>exact sd (by rw[← hf];rfl)|cons _ _=>cases e
theorem V70(k:Nat)(g:f80 m ps)(hx:Row x lot)(hl:∀ n∈lot,n < ps.length)(z:Z):a70 T (k + 3) z80 [.d (G10 m ps),.d x] z=some (.ok (.fr ((n60 ps m.toNat lot).map D.int)) z):=by
 have m6:=g.m6;have m1:=g.m1;refine W.ok (g00 (ps:=2) (ns:=8) (b:=p00) rfl rfl (-0) ?_)
 refine(a00 (o:=lrD [.int m]) (N10 ∅ ∅) ?_ :)
 refine a00 (o:=Z10 x) hx.sq ?_;refine o70 (λxs ρ z1=>z1=z/\∃ (rest:List Nat) (mk:List Int) (o3 o4 o5 o6 o7:Option S),xs=rest.map c60/\(∀ n∈rest,n < ps.length)/\mk.length=m.toNat/\rest.foldl (p70 ps) mk=n60 ps m.toNat lot/\ρ=[some (.d (G10 m ps)),some (.d x),some (.fr (mk.map D.int)),o3,o4,o5,o6,o7]) _ ⟨rfl,lot,(î m.toNat).map λ(i:Nat)=>(i:Int),none,none,none,none,none,rfl,hl,by simp,rfl,(itE hx.ba).trans ?_⟩ ?_ ?_
 ·rw[← N20];rfl
 ·rintro y r ρ z1 ⟨rfl,rest,mk,o3,o4,o5,o6,o7,e,hr,hm,hf,rfl⟩;cases rest with
  |nil=>cases e
  |cons n rest =>
   cases e;have hn:=hr n Ê;have ht:=g.tie _ (getD_mem hn);refine(a00 (S31 hn) ?_ :);refine(a00 (V60 (mk:=mk) ht.1 ∅) ?_ :)
   refine(a00 (V60 (mk:=mk) (a:=(ps.getD n (0,0)).2) ∅ ∅) ?_ :)
   refine ip (by rw[È];simp only[most];omega) (B91 _ _ ?_)
   exact⟨rfl,rest,p70 ps mk n,_,_,_,_,_,rfl,λk hk=>hr k (É _ hk),by rw[C20];exact hm,hf,rfl⟩
 ·rintro ρ z1 ⟨rfl,rest,mk,o3,o4,o5,o6,o7,e,hr,hm,hf,rfl⟩;cases rest with
  |nil=>exact sd (by rw[← hf];rfl)|cons _ _=>cases e
section
variable {m:Int}{ps:List (Int × Int)}{pl lot:List Nat}
theorem M61{mk:List Int}{p:Nat}(h:p < mk.length):L40 (.lst (mk.map D.int)) (.int p)=some (.int (mk.getD p 0)):=V60 (a:=(p:Int)) ∅ (by rw[Ã2];exact h)
theorem S41(h:pl≠[]):L40 (.tup (pl.map c60)) (.int 0)=some (c60 (pl.getD 0 0)):=by
 cases pl with
 |nil=>exact absurd rfl h|cons p r=>exact c31 (j:=0) rfl
theorem f90.p0(hp:f90 m pl):pl.getD 0 0 < m.toNat:=by
 have h:=hp.ne;have h2:=hp.lt;cases pl with
 |nil=>exact absurd rfl h|cons p r=>have:=h2 p Ê;show p < _;omega
def eqM(mk:List Int)(p0:Nat):D->Bool
 |.int p=>mk.getD p.toNat 0 == mk.getD p0 0|_=>false
theorem d42(l:List Nat):(l.map c60).all (eqM mk p0)=l.all λp=>mk.getD p 0 == mk.getD p0 0:=by rw[all_map];rfl
theorem O10(k:Nat)(g:f80 m ps)(hp:f90 m pl){x:D}(hx:Row x lot)(hl:∀ n∈lot,n < ps.length)(z:Z):a70 T (k + 4) z70 [.d (G10 m ps),.d x,.d (.tup (pl.map c60))] z=some (.ok (.d (.bl (n80 ps m.toNat pl lot))) z):=by
 have hlen:=hp.len g.m6;refine W.ok (g00 (ps:=3) (ns:=4) (b:=o80) rfl rfl (-0) (Wo (c51 k g hx hl z) ?_))
 have ml:(n60 ps m.toNat lot).length=m.toNat:=V20;generalize hmk:n60 ps m.toNat lot=mk at ml;refine ip (by rw[È];simp only[most];omega) (i11 (λx=>.bl (eqM mk (pl.getD 0 0) x)) (λy hy=>?_) (a00 (A40 _ (eqM mk (pl.getD 0 0))) ?_ :))
 ·obtain⟨p,hp',rfl⟩:=á.mp hy;have:=hp.lt p hp';refine(a00 (M61 (mk:=mk) (p:=p) ∅) ?_ :)
  refine(a00 (S41 hp.ne) ?_ :);refine(a00 (M61 (mk:=mk) (by rw[ml];exact hp.p0)) ?_ :)
  exact⟨rfl,rfl⟩
 ·refine sb (b:=(pl.map c60).all (eqM mk (pl.getD 0 0))) ?_;rw[d42,← hmk];rfl
theorem d52(h:okD (.lst l)=true):B90 .eq (.lst l) (.lst [])=some l.isEmpty:=by
 show(if okD (.lst l)&&okD (.lst []) then some (eqD (.lst l) (.lst [])) else eqE (.lst l) (.lst []))=_;rw[h];cases l <;> rfl
theorem M71(l:List Nat):okD (.lst (l.map c60))=true:=by
 have e:l.map c60=(l.map λ(n:Nat)=>(n:Int)).map D.int:=by rw[ù];rfl
 rw[e];exact U30 _
theorem M81(l:List Nat)(f:D->Bool):(l.map c60).filter f=(l.filter λn=>f (c60 n)).map c60:=List.filter_map ..
theorem c61(k:Nat)(g:f80 m ps)(hp:f90 m pl){x:D}(hx:Row x lot)(hl:∀ n∈lot,n < ps.length)(z:Z):a70 T (k + 4) F50 [.d (G10 m ps),.d x,.d (.tup (pl.map c60))] z=some (.ok (.d (.bl (n80 ps m.toNat pl lot))) z):=by
 have hlen:=hp.len g.m6;refine W.ok (g00 (ps:=3) (ns:=4) (b:=t70) rfl rfl (-0) (Wo (V70 k g hx hl z) ?_))
 have ml:(n60 ps m.toNat lot).length=m.toNat:=V20;generalize hmk:n60 ps m.toNat lot=mk at ml;refine ip (by rw[È];simp only[most];omega) (J22 (λx=>!eqM mk (pl.getD 0 0) x) (λx=>x) (λy hy=>?_) ?_)
 ·obtain⟨p,hp',rfl⟩:=á.mp hy;have:=hp.lt p hp';refine(a00 (M61 (mk:=mk) (p:=p) ∅) ?_ :)
  refine(a00 (S41 hp.ne) ?_ :);refine(a00 (M61 (mk:=mk) (by rw[ml];exact hp.p0)) ?_ :)
  exact⟨rfl,rfl,λ_=>⟨rfl,rfl⟩⟩
 ·rw[List.map_id',M81];refine(a00 (d52 (M71 _)) ?_ :);refine sb ?_;unfold n80 d22;rw[hmk,List.isEmpty_map];generalize pl.getD 0 0=p0;clear hp hlen hx hl
  induction pl with
  |nil=>rfl
  |cons p r ih =>
   rw[filter_cons,Â1];have e:eqM mk p0 (c60 p)=(mk.getD p 0 == mk.getD p0 0):=rfl;rw[e];cases mk.getD p 0 == mk.getD p0 0 with
   |true=>exact ih|false=>rfl
end
def n30(l:List Nat):D:=.tup (l.map c60)
theorem C30:∀ {j:Nat}{lot:List Nat},lot∈d70 j->lot.length<=j
 |0,lot,h=>by rw[ÿ.mp h];exact Ë _
 |j + 1,lot,h=>by
  rcases Â3.mp h with h | h
  ·exact Nat.le_succ_of_le (C30 h)
  ·obtain⟨l,hl,rfl⟩:=á.mp h;rw[R91];exact Ù1 (C30 hl)
theorem r30:∀ j:Nat,(d70 j).length=2 ^ j
 |0=>rfl
 |j + 1=>by
  show(d70 j++(d70 j).map (·++[j])).length=_;rw[Â0,È,r30 j,pow_succ];omega
theorem c71(h:j<=8):2 ^ j<=256:=Ë6 (n:=2) (-0) h
theorem add_l(h:a.length + b.length<=1000):B20 .add (.lst a) (.lst b)=some (.fr (a++b)):=by
 show(if a.length + b.length<=most then some (S.fr (a++b)) else none)=_;rw[if_pos (y10 h)]
theorem V80(h:a.length + b.length<=1000):B20 .add (.tup a) (.tup b)=some (.d (.tup (a++b))):=by
 show(if a.length + b.length<=most then some (S.d (.tup (a++b))) else none)=_;rw[if_pos (y10 h)]
def G22(j:Nat):D->D
 |.tup l=>.tup (l++[c60 j])|x=>x
theorem j51:((d70 j).map n30).map (G22 j)=((d70 j).map (·++[j])).map n30:=by
 rw[ù,ù];refine Î6 λl _=>?_;show D.tup (l.map c60++[c60 j])=.tup ((l++[j]).map c60);rw[Ã9];rfl
theorem y80{n:Nat}(h:n < 100000):itD .rng1 [.int n]=some ((À7 0 n).map c60):=by
 rw[N10 ∅ ∅,Ã2,Ó3];rfl
theorem c81(k:Nat)(h8:ts.length<=8)(z:Z):a70 T (k + 3) F40 [.d (.tup [.int m,.tup ts])] z=some (.ok (.fr ((d70 ts.length).map n30)) z):=by
 refine W.ok (g00 (ps:=1) (ns:=3) (b:=t60) rfl rfl (-0) ?_)
 refine(a00 (y80 (n:=ts.length) ∅) ?_ :)
 refine o70 (λxs ρ z1=>z1=z/\∃ (j r:Nat) (o2:Option S),j + r=ts.length/\xs=(À7 j r).map c60/\ρ=[some (.d (.tup [.int m,.tup ts])),some (.fr ((d70 j).map n30)),o2]) _ ⟨rfl,0,ts.length,none,Í1 _,rfl,rfl⟩ ?_ ?_
 ·rintro x r ρ z1 ⟨rfl,j,r',o2,hj,e,rfl⟩;cases r' with
  |zero=>cases e
  |succ r' =>
   rw[À2] at e;cases e;have hp:=c71 (j:=j) ∅
   refine ip (by rw[È,r30];simp only[most];omega) (i11 (G22 j) (λy hy=>?_) ?_)
   ·obtain⟨l,hl,rfl⟩:=á.mp hy;have:=C30 hl;refine(a00 (V80 (a:=l.map c60) (b:=[c60 j]) (by rw[È];show _ + 1<=_;omega)) ?_ :)
    exact⟨rfl,rfl⟩
   ·rw[j51];refine(a00 (add_l (a:=(d70 j).map n30) (b:=((d70 j).map (·++[j])).map n30) (by rw[È,È,È,r30];omega)) ?_ :)
    refine⟨rfl,j + 1,r',some (.d (c60 j)),by omega,rfl,?_⟩
    exact congrArg (λl=>[some (S.d (.tup [.int m,.tup ts])),some (.fr l),some (.d (c60 j))]) Ã9.symm
 ·rintro ρ z1 ⟨rfl,j,r',o2,hj,e,rfl⟩;cases r' with
  |zero=>exact sd (by rw[← show j=ts.length from hj])|succ r'=>rw[À2] at e;cases e
abbrev cf(cs:List (Int × Int))(n:Nat):Int × Int:=cs.getD n (0,1)
def h20(cs:List (Int × Int)):Int:=(cs.map (·.2)).foldr (· * ·) 1
theorem d62:B81 (cf cs) (î cs.length)=h20 cs:=by
 unfold B81 h20
 congr 1
 refine List.ext_getElem (by simp) λi h1 h2=>?_
 have hi:i < cs.length:=by simpa using h1
 simp[Ó,Ð hi]
theorem y90:∀ {cs:List (Int × Int)},(∀ c∈cs,IsC c)->0 < h20 cs/\h20 cs<=2 ^ (10 * cs.length)
 |[],_=>by decide
 |c::r,h=>by
  obtain⟨h1,h2⟩:=y90 λd hd=>h d (É _ hd);obtain⟨c1,c2,_⟩:=h c Ê;refine⟨Ê2 (show(0:Int) < c.2 by omega) h1,?_⟩
  show c.2 * h20 r<=_;rw[Ô,mul_add,pow_add,Ç8];exact Ü2 h2 ∅ ∅ (by have:=É9 (Ê0 h1) h2;exact this)
theorem IsC.w(h:IsC c)(b:Prop)[Decidable b]:0<=(if b then c.1 else c.2 - c.1)/\(if b then c.1 else c.2 - c.1)<=1000:=by
 obtain⟨c1,c2,c3,c4,_⟩:=h;split <;> omega
theorem M91(ha:∀ c∈cs,IsC c)(h:n < cs.length):IsC (cf cs n):=ha _ (by rw[cf,Ó,Ð h];exact Á2 h)
theorem C01(ha:∀ c∈cs,IsC c):∀ {j:Nat},j<=cs.length->0<=amt (cf cs) j lot/\amt (cf cs) j lot<=2 ^ (10 * j)
 |0,_=>by show(0:Int)<=1/\(1:Int)<=1;omega
 |j + 1,h=>by
  obtain⟨h1,h2⟩:=C01 (lot:=lot) ha (j:=j) ∅
  obtain⟨w1,w2⟩:=(M91 ha (n:=j) ∅).w (j∈lot)
  rw[n10];refine⟨Ü1 h1 w1,?_⟩;rw[mul_add,pow_add];exact Ü2 h2 ∅ w1 (by have:=É9 h1 h2;exact this)
theorem j61(n:Nat):∀ l:List Nat,memD (c60 n) (l.map c60)=decide (n∈l)
 |[]=>rfl
 |x::r=>by
  show((x:Int) == (n:Int) || memD (c60 n) (r.map c60))=_;rw[j61 n r,Ò4,Å5,beq_iff_eq,decide_eq_true_eq,decide_eq_true_eq,Á7];constructor
  ·rintro (h | h)
   ·exact .inl ∅
   ·exact .inr h
  ·rintro (h | h)
   ·exact .inl ∅
   ·exact .inr h
theorem C11(l:List Nat):O70 (l.map c60)=true:=by
 have e:l.map c60=(l.map λ(n:Nat)=>(n:Int)).map D.int:=by rw[ù];rfl
 obtain⟨h1,h2⟩:=c21 (l.map λ(n:Nat)=>(n:Int));unfold O70;rw[e,h1,h2];rfl
theorem C21{n:Nat}{l:List Nat}:e52 (c60 n) (l.map c60)=some (decide (n∈l)):=by
 unfold e52;rw[C11,j61];rfl
theorem t42{n:Nat}(h:n < cs.length):L40 (.tup (cs.map pr)) (.int n)=some (pr (cf cs n)):=by
 rw[cf,Ó,Ð h];exact c31 (by rw[Ø,Ð h];rfl)
theorem C31(l:List (List Nat)):j10 (l.map n30)=true:=by
 induction l with
 |nil=>rfl
 |cons x r ih =>
  show(j10 (x.map c60)&&j10 (r.map n30))=true;rw[y70,ih];rfl
section
variable {m:Int}{ps cs:List (Int × Int)}{pl:List Nat}
abbrev G32(m:Int)(ps cs:List (Int × Int))(pl:List Nat)(t:Int)(o4 o5 o6 o7 o8 o9:Option S):Env:=[some (.d (G10 m ps)),some (.d (.tup (cs.map pr))),some (.d (.tup (pl.map c60))),some (.d (.int t)),o4,o5,o6,o7,o8,o9]
theorem A80(k:Nat)(g:f80 m ps)(hp:f90 m pl)(hc:cs.length=ps.length)(ha:∀ c∈cs,IsC c)(z:Z):a70 T (k + 5) z90 [.d (G10 m ps),.d (.tup (cs.map pr)),.d (.tup (pl.map c60))] z=some (.ok (.d (pr (j40 (w60 (d70 ps.length) λlot=>if n80 ps m.toNat pl lot then amt (cf cs) ps.length lot else 0) (h20 cs)))) z):=by
 have h8:=g.len;obtain⟨b0,b1⟩:=y90 ha;refine W.ok (g00 (ps:=3) (ns:=10) (b:=p10) rfl rfl (-0) (Wo (c81 (k + 1) (m:=m) (ts:=ps.map pr) (by rw[È];exact h8) z) ?_))
 rw[È];generalize hf:(λlot=>if n80 ps m.toNat pl lot then amt (cf cs) ps.length lot else 0)=f;refine o70 (λxs ρ z1=>z1=z/\∃ (rest:List (List Nat)) (t:Int) (o4 o5 o6 o7 o8 o9:Option S),xs=rest.map n30/\(∀ l∈rest,l∈d70 ps.length)/\t + w60 rest f=w60 (d70 ps.length) f/\ρ=G32 m ps cs pl t o4 o5 o6 o7 o8 o9) _ ⟨rfl,d70 ps.length,0,none,none,none,none,none,none,rfl,λ_ h=>h,Ö8 _,(itE (by show(j10 _&&true)=true;rw[C31];rfl)).trans rfl⟩ ?_ ?_
 ·rintro x r ρ z1 ⟨rfl,rest,t,o4,o5,o6,o7,o8,o9,e,hr,ht,rfl⟩;cases rest with
  |nil=>cases e
  |cons lot rest =>
   cases e;have hl:=hr lot Ê;have hlt:=y60 hl;have hr':∀ l∈rest,l∈d70 ps.length:=λl h=>hr l (É _ h);have ht':t + (f lot + w60 rest f)=w60 (d70 ps.length) f:=ht;refine Wo (c61 k g hp (Row.t lot) hlt z1) (ib (b:=n80 ps m.toNat pl lot) (λhg=>?_) λhg=>?_)
   ·have fl:f lot=amt (cf cs) ps.length lot:=by rw[← hf];exact if_pos hg
    rw[fl] at ht';refine(a00 (o:=itD .rng1 [.int ((cs.map pr).length:Nat)]) (y80 (n:=(cs.map pr).length) (by rw[È];omega)) ?_ :)
    refine o70 (λxs ρ z2=>z2=z1/\∃ (j q:Nat) (o6 o7 o8 o9:Option S),j + q=ps.length/\xs=(À7 j q).map c60/\ρ=G32 m ps cs pl t (some (.d (n30 lot))) (some (.d (.int (amt (cf cs) j lot)))) o6 o7 o8 o9) _ ⟨rfl,0,ps.length,_,_,_,_,Í1 _,by rw[È,hc],rfl⟩ ?_ ?_
    ·rintro x r ρ z2 ⟨rfl,j,q,o6,o7,o8,o9,hj,e,rfl⟩;cases q with
     |zero=>cases e
     |succ q =>
      rw[À2] at e;cases e;obtain⟨a1,a2⟩:=C01 (lot:=lot) ha (j:=j) ∅
      have hcf:=M91 ha (n:=j) ∅
      refine(a00 (t42 (cs:=cs) (n:=j) ∅) ?_ :)
      refine(a00 (C21 (n:=j) (l:=lot)) ?_ :);have fin:∀ w:Int,0<=w->w<=1000->w=(if j∈lot then(cf cs j).1 else(cf cs j).2 - (cf cs j).1)->B20 .mul (.int (amt (cf cs) j lot)) (.int w)=some (.d (.int (amt (cf cs) (j + 1) lot))):=λw w0 w1 e=>by
       rw[L91 a1 (y40 (n:=10 * j) ∅ a2) w0 (l60 ∅),n10,e]
      obtain⟨w1,w2⟩:=hcf.w (j∈lot);refine ib (b:=decide (j∈lot)) (λhm=>?_) λhm=>?_
      ·rw[decide_eq_true_eq] at hm;rw[if_pos hm] at w1 w2;refine(a00 (fin _ w1 w2 (by rw[if_pos hm])) ?_ :)
       exact⟨rfl,j + 1,q,_,_,_,_,by omega,rfl,rfl⟩
      ·rw[decide_eq_false_iff_not] at hm;rw[if_neg hm] at w1 w2;refine(a00 (fin _ w1 w2 (by rw[if_neg hm])) ?_ :)
       exact⟨rfl,j + 1,q,_,_,_,_,by omega,rfl,rfl⟩
    ·rintro ρ z2 ⟨rfl,j,q,o6,o7,o8,o9,hj,e,rfl⟩;cases q with
     |succ q=>rw[À2] at e;cases e
     |zero =>
      have hj:j=ps.length:=hj;subst hj;exact⟨rfl,rest,t + amt (cf cs) ps.length lot,_,_,_,_,_,_,rfl,hr',by omega,rfl⟩
   ·have fl:f lot=0:=by rw[← hf];exact if_neg (by rw[hg];exact Ò)
    exact⟨rfl,rest,t,_,_,_,_,_,_,rfl,hr',by omega,rfl⟩
 ·rintro ρ z1 ⟨rfl,rest,t,o4,o5,o6,o7,o8,o9,e,hr,ht,rfl⟩;cases rest with
  |cons _ _=>cases e
  |nil =>
   have ht:t + 0=w60 (d70 ps.length) f:=ht;rw[Int.add_zero] at ht;subst ht;refine o70 (λxs ρ z2=>z2=z1/\∃ (rest:List (Int × Int)) (b:Int) (o4 o5 o6 o7 o9:Option S),xs=rest.map pr/\(∀ c∈rest,IsC c)/\0 < b/\b * h20 rest=h20 cs/\ρ=G32 m ps cs pl (w60 (d70 ps.length) f) o4 o5 o6 o7 (some (.d (.int b))) o9) _ ⟨rfl,cs,1,_,_,_,_,_,rfl,ha,by decide,Int.one_mul _,(itE (by show(j10 _&&true)=true;rw[w50];rfl)).trans rfl⟩ ?_ ?_
   ·rintro x r ρ z2 ⟨rfl,rest,b,o4,o5,o6,o7,o9,e,hr,hb,ht,rfl⟩;cases rest with
    |nil=>cases e
    |cons c rest =>
     cases e;have hc':=hr c Ê;have hr':∀ c∈rest,IsC c:=λd hd=>hr d (É _ hd);have ht':b * (c.2 * h20 rest)=h20 cs:=ht;have p0:=(y90 hr').1;have hle:b<=h20 cs:=by
      rw[← ht'];have h1:0 < c.2 * h20 rest:=Ê2 (by have:=hc'.1;omega) p0
      have:b * 1<=b * (c.2 * h20 rest):=Á1 ∅ ∅
      omega
     refine(a00 (L91 (i:=b) (j:=c.2) ∅ (y40 (n:=10 * cs.length) ∅ (É9 hle b1)) (by have:=hc'.1;omega) (l60 (by have:=hc'.2.1;omega))) ?_ :)
     exact⟨rfl,rest,b * c.2,_,_,_,_,_,rfl,hr',Ê2 hb (by have:=hc'.1;omega),by rw[Int.mul_assoc];exact ht',rfl⟩
   ·rintro ρ z2 ⟨rfl,rest,b,o4,o5,o6,o7,o9,e,hr,hb,ht,rfl⟩;cases rest with
    |cons _ _=>cases e
    |nil =>
     have ht:b * 1=h20 cs:=ht;rw[mul_one] at ht;subst ht;exact Wo (y30 (k + 1) _ _ z2 b0 (y40 (n:=10 * cs.length) ∅ b1)) (sd rfl)
theorem N01(g:f80 m ps)(hp:f90 m pl):v32 ps.length (n80 ps m.toNat pl):=λa b ha hb h=>by
 have hm:∀ p∈pl,p < m.toNat:=λp q=>by have:=hp.lt p q;omega
 rw[Ò4];exact⟨good_mono g.rng hm hb λn hn=>(h n).mp hn,good_mono g.rng hm ha λn hn=>(h n).mpr hn⟩
def p80(m:Int)(ps cs:List (Int × Int))(pl:List Nat):Int × Int:=j40 (w60 (d70 ps.length) λlot=>if n80 ps m.toNat pl lot then amt (cf cs) ps.length lot else 0) (h20 cs)
theorem C41(g:f80 m ps)(hp:f90 m pl)(hc:cs.length=ps.length):p80 m ps cs pl=j40 (tot (n80 ps m.toNat pl) (cf cs) (î ps.length) []) (B81 (cf cs) (î ps.length)):=by
 have hg:=N01 g hp;have h1:=O00 (c:=cf cs) hg ps.length [] (Ë _) (λ_ h=>nomatch h);simp only[É2] at h1;have hd:=V50 ps.length;unfold p80;rw[h1,M31 hg hd [] (λn hn=>Å7.mp (hd.mem_iff.mp hn)) (λ_ h=>nomatch h),← hc,d62]
end
section
variable {g:List Nat->Bool}{c:Nat->Int × Int}
theorem C51:∀ (ns held:List Nat),(∀ n∈ns,IsC (c n))->0<=tot g c ns held/\tot g c ns held<=B81 c ns
 |[],held,_=>by
  unfold tot;show _/\_<=1;split <;> decide
 |n::r,held,h=>by
  obtain⟨c1,c2,c3,c4,_⟩:=h n Ê;have hr:=λk hk=>h k (É _ hk);obtain⟨a0,a1⟩:=C51 r (n::held) hr;obtain⟨b0,b1⟩:=C51 r held hr;unfold tot;rw[V40];have p1:=Ü1 c3 a0;have p2:=Ü1 (show 0<=(c n).2 - (c n).1 by omega) b0
  have q1:=Á1 a1 c3;have q2:=Á1 b1 (show 0<=(c n).2 - (c n).1 by omega)
  refine⟨by omega,?_⟩
  have e:(c n).2 * B81 c r=(c n).1 * B81 c r + ((c n).2 - (c n).1) * B81 c r:=by rw[← Int.add_mul];congr 1;omega
  omega
theorem C61:∀ {ns:List Nat},(∀ n∈ns,IsC (c n))->0 < B81 c ns/\B81 c ns<=2 ^ (10 * ns.length)
 |[],_=>by show(0:Int) < 1/\(1:Int)<=1;omega
 |n::r,h=>by
  obtain⟨h1,h2⟩:=C61 λk hk=>h k (É _ hk);obtain⟨c1,c2,_⟩:=h n Ê;rw[V40];refine⟨Ê2 ∅ h1,?_⟩
  rw[Ô,mul_add,pow_add,Ç8];exact Ü2 h2 ∅ ∅ (É9 (Ê0 h1) h2)
end
structure Fr(v:Int × Int)(t b:Int):Prop where
 t0:0<=v.1
 b0:0 < v.2
 one:gcd v.1 v.2=1
 eq:v.1 * b=v.2 * t
theorem Fr.bd(h:Fr v t b)(hb:0 < b)(ht:t<=b)(hn:b<=2 ^ n):Bd n v:=by
 refine⟨h.t0,?_,h.b0,?_⟩
 ·refine Int.le_of_mul_le_mul_right (a:=b) ?_ hb;rw[h.eq];exact Á1 ht (Ê0 h.b0)
 ·exact É9 (le_of_dvd hb (B51 h.one ⟨t,h.eq⟩)) hn
theorem V90(h0:0 < b):(j40 t b).1 * b=(j40 t b).2 * t:=by
 obtain⟨e1,e2⟩:=N70 (t:=t) h0;generalize (j40 t b).1=x at *
 generalize (j40 t b).2=y at *
 generalize ((gcd t b:Nat):Int)=k at *
 rw[e1,e2]
 grind
theorem Fr.low(hb:0 < b)(ht:0<=t):Fr (j40 t b) t b:=⟨Ú7 ht (Ê0 (p50 hb)),y50 hb,c41 hb,V90 hb⟩
def G60(k:Nat):List (List Nat):=(TS.sN k).map (TS.D20 k 0)
theorem W00(h:k<=8):d70 k=(î (2 ^ k)).map (TS.D20 k 0):=by
 have:∀ k,k < 9->d70 k=(î (2 ^ k)).map (TS.D20 k 0):=by decide +kernel
 exact this k ∅
theorem G00(h:k<=8):(G60 k).Perm (d70 k):=by
 have:∀ k,k < 9->(TS.sN k).isPerm (î (2 ^ k))=true:=by decide +kernel
 rw[W00 h];exact(List.isPerm_iff.mp (this k ∅)).map _
theorem t52(h:k<=8):(d70 k).map n30=h70 k:=by
 rw[W00 h];unfold h70;rw[ù];rfl
theorem c91(h:k<=8):bfD .sorted [.lst ((d70 k).map n30)]=some (.fr ((G60 k).map n30)):=by
 have h1:∀ k,k < 9->z50 (h70 k)=false:=by decide +kernel
 have h2:∀ k,k < 9->((î 9).find? λj=>X30 (h70 k) (h70 j))=some k:=by decide +kernel
 rw[t52 h];show(if (h70 k).length < 64/\z50 (h70 k)=true then some (S.fr (L30 (h70 k))) else((((î 9).find? λj=>X30 (h70 k) (h70 j)).map I81).map S.fr))=_;rw[if_neg (λq=>by rw[h1 k ∅] at q;cases q.2),h2 k ∅]
 show some (S.fr (I81 k))=some (S.fr ((G60 k).map n30));rw[G60,ù];rfl
theorem N11{i:Nat}(hi:T[i]?=some (.code 1 3 r00))(k:Nat){m:Int}{ts:List D}(h8:ts.length<=8)(z:Z):a70 T (k + 3) i [.d (.tup [.int m,.tup ts])] z=some (.ok (.fr ((G60 ts.length).map n30)) z):=by
 refine W.ok (g00 (ps:=1) (ns:=3) (b:=r00) hi rfl (-0) ?_)
 refine(a00 (y80 (n:=ts.length) ∅) ?_ :)
 refine o70 (λxs ρ z1=>z1=z/\∃ (j r:Nat) (o2:Option S),j + r=ts.length/\xs=(À7 j r).map c60/\ρ=[some (.d (.tup [.int m,.tup ts])),some (.fr ((d70 j).map n30)),o2]) _ ⟨rfl,0,ts.length,none,Í1 _,rfl,rfl⟩ ?_ ?_
 ·rintro x r ρ z1 ⟨rfl,j,r',o2,hj,e,rfl⟩;cases r' with
  |zero=>cases e
  |succ r' =>
   rw[À2] at e;cases e;have hp:=c71 (j:=j) ∅
   refine ip (by rw[È,r30];simp only[most];omega) (i11 (G22 j) (λy hy=>?_) ?_)
   ·obtain⟨l,hl,rfl⟩:=á.mp hy;have:=C30 hl;refine(a00 (V80 (a:=l.map c60) (b:=[c60 j]) (by rw[È];show _ + 1<=_;omega)) ?_ :)
    exact⟨rfl,rfl⟩
   ·rw[j51];refine(a00 (add_l (a:=(d70 j).map n30) (b:=((d70 j).map (·++[j])).map n30) (by rw[È,È,È,r30];omega)) ?_ :)
    refine⟨rfl,j + 1,r',some (.d (c60 j)),by omega,rfl,?_⟩
    exact congrArg (λl=>[some (S.d (.tup [.int m,.tup ts])),some (.fr l),some (.d (c60 j))]) Ã9.symm
 ·rintro ρ z1 ⟨rfl,j,r',o2,hj,e,rfl⟩;cases r' with
  |zero =>
   have hj:j=ts.length:=hj;subst hj;refine(a00 (c91 h8) ?_ :);exact sd rfl
  |succ r'=>rw[À2] at e;cases e
theorem d01(k:Nat){m:Int}{ts:List D}(h8:ts.length<=8)(z:Z):a70 T (k + 3) I10 [.d (.tup [.int m,.tup ts])] z=some (.ok (.fr ((G60 ts.length).map n30)) z):=N11 rfl k h8 z
def W10:D->List Nat
 |.tup l=>l.map λx=>match x with | .int i=>i.toNat | _=>0
 |_=>[]
theorem C40(l:List Nat):W10 (n30 l)=l:=by
 show(l.map c60).map _=l;rw[ù];exact map_id l
theorem d72(h:k<=8)(hl:lot∈G60 k):∀ n∈lot,n < k:=y60 ((G00 h).mem_iff.mp hl)
theorem j71(h:k<=8):(G60 k).length<=256:=by rw[(G00 h).length_eq,r30];exact c71 h
section
variable {m:Int}{ps cs:List (Int × Int)}{pl:List Nat}
abbrev j81(m:Int)(ps:List (Int × Int))(pl:List Nat):List (List Nat):=(G60 ps.length).filter (n80 ps m.toNat pl)
theorem W20(k:Nat)(g:f80 m ps)(hp:f90 m pl)(z:Z):a70 T (k + 9) F30 [.d (G10 m ps),.d (.tup (pl.map c60))] z=some (.ok (.fr ((j81 m ps pl).map n30)) z):=by
 have h8:=g.len;have h6:=hp.len g.m6;refine W.ok (g00 (ps:=2) (ns:=2) (b:=t50) rfl rfl (-0) (Wo (A50 k z g.web) (Wo (p60 (k + 2) (t:=.tup (ps.map pr)) z hp.pls (decide_eq_true (by rw[È];omega))) (Wo (d01 (k + 5) (m:=m) (ts:=ps.map pr) (by rw[È];exact h8) z) ?_))))
 rw[È];refine ip (by rw[È];exact y10 (Þ (j71 h8) (-0))) (J22 (λx=>n80 ps m.toNat pl (W10 x)) id (λx hx=>?_) ?_)
 ·obtain⟨l,hl,rfl⟩:=á.mp hx;refine Wo (O10 (k + 4) g hp (Row.t l) (d72 h8 hl) z) ⟨?_,rfl,λ_=>⟨rfl,rfl⟩⟩;rw[C40]
 ·refine sd ?_;rw[map_id,List.filter_map];have:(G60 ps.length).filter ((λx=>n80 ps m.toNat pl (W10 x)) ∘ n30)=j81 m ps pl:=List.filter_congr λl _=>by show n80 ps m.toNat pl (W10 (n30 l))=_;rw[C40]
  rw[this]
theorem n71(k:Nat)(hl:cs.length<=8)(ha:∀ c∈cs,IsC c)(lot:List Nat)(z:Z):a70 T (k + 3) T60 [.d (.tup (cs.map pr)),.d (n30 lot)] z=some (.ok (.d (.int (amt (cf cs) cs.length lot))) z):=by
 refine W.ok (g00 (ps:=2) (ns:=6) (b:=F80) rfl rfl (-0) ?_)
 refine o70 (λxs ρ z1=>z1=z/\∃ (j:Nat) (o3 o4 o5:Option S),j<=cs.length/\xs=B30 ((cs.drop j).map pr) j/\ρ=[some (.d (.tup (cs.map pr))),some (.d (n30 lot)),some (.d (.int (amt (cf cs) j lot))),o3,o4,o5]) _ ⟨rfl,0,none,none,none,Å8 _,rfl,(itE (by show(j10 _&&true)=true;rw[w50];rfl)).trans rfl⟩ ?_ ?_
 ·rintro x r ρ z1 ⟨rfl,j,o3,o4,o5,hj,e,rfl⟩;by_cases h:j < cs.length
  ·rw[Ã5 h] at e;cases e;have ec:cs[j]=cf cs j:=by rw[cf,Ó,Ð h];rfl
   rw[ec];obtain⟨a1,a2⟩:=C01 (lot:=lot) ha (j:=j) ∅
   refine(a00 (C21 (n:=j) (l:=lot)) ?_ :);have fin:∀ w:Int,0<=w->w<=1000->w=(if j∈lot then(cf cs j).1 else(cf cs j).2 - (cf cs j).1)->B20 .mul (.int (amt (cf cs) j lot)) (.int w)=some (.d (.int (amt (cf cs) (j + 1) lot))):=λw w0 w1 e=>by
    rw[L91 a1 (y40 (n:=10 * j) ∅ a2) w0 (l60 ∅),n10,e]
   obtain⟨w1,w2⟩:=(M91 ha h).w (j∈lot);refine ib (b:=decide (j∈lot)) (λhm=>?_) λhm=>?_
   ·rw[decide_eq_true_eq] at hm;rw[if_pos hm] at w1 w2;refine(a00 (fin _ w1 w2 (by rw[if_pos hm])) ?_ :)
    exact⟨rfl,j + 1,_,_,_,h,rfl,rfl⟩
   ·rw[decide_eq_false_iff_not] at hm;rw[if_neg hm] at w1 w2;refine(a00 (fin _ w1 w2 (by rw[if_neg hm])) ?_ :)
    exact⟨rfl,j + 1,_,_,_,h,rfl,rfl⟩
  ·rw[Ñ4 ∅] at e;cases e
 ·rintro ρ z1 ⟨rfl,j,o3,o4,o5,hj,e,rfl⟩;by_cases h:j < cs.length
  ·rw[Ã5 h] at e;cases e
  ·have hj:j=cs.length:=by omega
   subst hj;exact sd rfl
theorem G70(k:Nat)(hl:cs.length<=8)(ha:∀ c∈cs,IsC c)(z:Z):a70 T (k + 3) w10 [.d (.tup (cs.map pr))] z=some (.ok (.d (.int (h20 cs))) z):=by
 obtain⟨b0,b1⟩:=y90 ha;refine W.ok (g00 (ps:=1) (ns:=3) (b:=m70) rfl rfl (-0) ?_)
 refine o70 (λxs ρ z2=>z2=z/\∃ (rest:List (Int × Int)) (b:Int) (o:Option S),xs=rest.map pr/\(∀ c∈rest,IsC c)/\0 < b/\b * h20 rest=h20 cs/\ρ=[some (.d (.tup (cs.map pr))),some (.d (.int b)),o]) _ ⟨rfl,cs,1,none,rfl,ha,by decide,Int.one_mul _,(itE (by show(j10 _&&true)=true;rw[w50];rfl)).trans rfl⟩ ?_ ?_
 ·rintro x r ρ z2 ⟨rfl,rest,b,o,e,hr,hb,ht,rfl⟩;cases rest with
  |nil=>cases e
  |cons c rest =>
   cases e;have hc':=hr c Ê;have hr':∀ c∈rest,IsC c:=λd hd=>hr d (É _ hd);have ht':b * (c.2 * h20 rest)=h20 cs:=ht;have p0:=(y90 hr').1;have hle:b<=h20 cs:=by
    rw[← ht'];have h1:0 < c.2 * h20 rest:=Ê2 (by have:=hc'.1;omega) p0
    have:b * 1<=b * (c.2 * h20 rest):=Á1 ∅ ∅
    omega
   refine(a00 (L91 (i:=b) (j:=c.2) ∅ (y40 (n:=10 * cs.length) ∅ (É9 hle b1)) (by have:=hc'.1;omega) (l60 (by have:=hc'.2.1;omega))) ?_ :)
   exact⟨rfl,rest,b * c.2,_,rfl,hr',Ê2 hb (by have:=hc'.1;omega),by rw[Int.mul_assoc];exact ht',rfl⟩
 ·rintro ρ z2 ⟨rfl,rest,b,o,e,hr,hb,ht,rfl⟩;cases rest with
  |cons _ _=>cases e
  |nil =>
   have ht:b * 1=h20 cs:=ht;rw[mul_one] at ht;subst ht;exact sd rfl
theorem sum_ints(f:List Nat->Int):∀ ls:List (List Nat),I91 ((ls.map n30).map λx=>.int (f (W10 x)))=some (w60 ls f)
 |[]=>rfl
 |l::r=>by
  show(I91 ((r.map n30).map λx=>.int (f (W10 x)))).map (f (W10 (n30 l)) + ·)=_;rw[sum_ints f r,C40];rfl
theorem O20(k:Nat)(hl:cs.length<=8)(ha:∀ c∈cs,IsC c)(hls:ls.length<=256)(z:Z):a70 T (k + 5) j60 [.d (.tup (cs.map pr)),.d (.lst (ls.map n30))] z=some (.ok (.d (pr (j40 (w60 ls (amt (cf cs) cs.length)) (h20 cs)))) z):=by
 obtain⟨b0,b1⟩:=y90 ha;refine W.ok (g00 (ps:=2) (ns:=2) (b:=o90) rfl rfl (-0) ?_)
 refine ip (by rw[È];exact y10 ∅) (i11 (λx=>.int (amt (cf cs) cs.length (W10 x))) (λx hx=>?_) ?_)
 ·obtain⟨l,_,rfl⟩:=á.mp hx;refine Wo (n71 (k + 1) hl ha l z) ⟨?_,rfl⟩;rw[C40]
 ·refine(a00 (o:=bfD .sum [.lst _]) (a:=.d (.int (w60 ls (amt (cf cs) cs.length)))) (by show(((Z10 (.lst _)).bind I91).map _)=_;show(I91 _).map _=_;rw[sum_ints];rfl) ?_ :)
  exact Wo (G70 (k + 1) hl ha z) (Wo (U80 k _ _ z b0 (y40 (n:=10 * cs.length) ∅ b1)) (sd rfl))
theorem C71(h:a.Perm b):w60 a f=w60 b f:=by
 unfold w60;exact(h.map f).foldr_eq' (λx _ y _ z=>by omega) 0
theorem W30(g:List Nat->Bool)(f:List Nat->Int):∀ a:List (List Nat),w60 (a.filter g) f=w60 a λl=>if g l then f l else 0
 |[]=>rfl
 |x::r=>by
  have ih:=W30 g f r;show _=(if g x=true then f x else 0) + w60 r _;rw[filter_cons,← ih];cases g x with
  |true=>rfl|false=>show _=0 + _;rw[Ö8];rfl
theorem w70(k:Nat)(g:f80 m ps)(hc:cs.length=ps.length)(ha:∀ c∈cs,IsC c)(z:Z):a70 T (k + 5) j60 [.d (.tup (cs.map pr)),.d (.lst ((j81 m ps pl).map n30))] z=some (.ok (.d (pr (p80 m ps cs pl))) z):=by
 have h8:=g.len;rw[O20 k ∅ ha (Þ (List.length_filter_le _ _) (j71 h8)) z,W30,C71 (G00 h8),hc]
 rfl
theorem r40(g:f80 m ps)(hp:f90 m pl)(hc:cs.length=ps.length)(ha:∀ c∈cs,IsC c):Bd 80 (p80 m ps cs pl):=by
 have h8:=g.len;have hcf:∀ n∈î ps.length,IsC (cf cs n):=λn hn=>M91 ha (by rw[hc];exact Å7.mp hn)
 obtain⟨b0,b1⟩:=C61 hcf;obtain⟨t0,t1⟩:=C51 (g:=n80 ps m.toNat pl) _ [] hcf;rw[C41 g hp hc];refine(Fr.low b0 t0).bd b0 t1 (É9 b1 ?_);rw[þ]
 exact_mod_cast Ë6 (n:=2) (-0) (show 10 * ps.length<=80 by omega)
end
def tl:Sm->Sm
 |.seq _ r=>r|s=>s
structure Bs(n:Nat)(c:Int × Int):Prop where
 t:c.1.natAbs<=2 ^ n
 b0:0 < c.2
 b:c.2.natAbs<=2 ^ n
theorem O30(h:n<=3999)(hi:i<=2 ^ n):i < H20:=Æ3 hi (Nat.pow_lt_pow_right (-0) ∅)
theorem G80(h:n<=3999)(hi:i.natAbs<=2 ^ n)(hj:j.natAbs<=2 ^ n):B20 .mul (.int i) (.int j)=some (.d (.int (i * j))):=by
 show(if i.natAbs < H20/\j.natAbs < H20 then some (S.d (.int (i * j))) else none)=_;rw[if_pos ⟨O30 h hi,O30 h hj⟩]
theorem u10{n m:Nat}{i j:Int}(hi:i.natAbs<=2 ^ n)(hj:j.natAbs<=2 ^ m):(i * j).natAbs<=2 ^ (n + m):=by
 rw[natAbs_mul,Nat.pow_add];exact Nat.mul_le_mul hi hj
theorem C81(h:n<=3999)(hi:i.natAbs<=2 ^ n):big i:=by
 have:=O30 h hi;show i < 2 ^ 4000;have e:((H20:Nat):Int)=2 ^ 4000:=by unfold H20;exact Ï7 2 4000
 rw[← e];omega
theorem Bd.s(h:Bd n c):Bs n c:=by
 have e:((2 ^ n:Nat):Int)=2 ^ n:=Ï7 2 n;have h1:=h.t0;have h2:=h.tb;have h3:=h.b0;have h4:=h.bb;rw[← e] at h4;exact⟨by omega,h3,by omega⟩
theorem t62(k:Nat)(hc:Bs n c)(hd:Bs n d)(hn:n + n<=3999)(z:Z):a70 T (k + 5) R71 [.d (pr c),.d (pr d)] z=some (.ok (.d (pr (j40 (c.1 * d.2 + d.1 * c.2) (c.2 * d.2)))) z):=by
 have h1:n<=3999:=by omega
 refine W.ok (g00 (ps:=2) (ns:=2) (b:=A11) rfl rfl (-0) ?_)
 refine(a00 (G80 h1 hc.t hd.b) ?_ :);refine(a00 (G80 h1 hd.t hc.b) ?_ :);refine(a00 (G80 h1 hc.b hd.b) ?_ :);exact Wo (U80 k _ _ z (Ê2 hc.b0 hd.b0) (C81 hn (u10 hc.b hd.b))) (sd rfl)
theorem n81(k:Nat)(hc:Bs n c)(hd:Bs n d)(hn:n + n<=3999)(z:Z):a70 T (k + 4) F60 [.d (pr c),.d (pr d)] z=some (.ok (.d (pr (j40 (c.1 * d.2 + d.1 * c.2) (c.2 * d.2)))) z):=by
 have h1:n<=3999:=by omega
 refine W.ok (g00 (ps:=2) (ns:=2) (b:=t80) rfl rfl (-0) ?_)
 refine(a00 (G80 h1 hc.t hd.b) ?_ :);refine(a00 (G80 h1 hd.t hc.b) ?_ :);refine(a00 (G80 h1 hc.b hd.b) ?_ :);exact Wo (y30 k _ _ z (Ê2 hc.b0 hd.b0) (C81 hn (u10 hc.b hd.b))) (sd rfl)
def G42(a b:Int × Int):Int × Int:=j40 (a.1 * b.2 + -b.1 * a.2) (a.2 * b.2)
theorem Bs.neg(h:Bs n c):Bs n (-c.1,c.2):=⟨by show(-c.1).natAbs<=_;rw[Int.natAbs_neg];exact h.t,h.b0,h.b⟩
theorem N21(k:Nat)(hc:Bs n c)(hd:Bs n d)(hn:n + n<=3999)(z:Z):a70 T (k + 6) z81 [.d (pr c),.d (pr d)] z=some (.ok (.d (pr (G42 c d))) z) :=
 W.ok (g00 (ps:=2) (ns:=2) (b:=b51) rfl rfl (-0) (Wo (t62 k hc hd.neg hn z) (sd rfl)))
theorem d11(h0:0 < b):(j40 t b).1.natAbs<=t.natAbs/\(j40 t b).2.natAbs<=b.natAbs:=by
 obtain⟨e1,e2⟩:=N70 (t:=t) h0;have g0:=p50 (t:=t) h0;generalize j40 t b=v at *
 generalize hg:gcd t b=g at *
 have g1:1<=g:=by omega
 constructor
 ·rw[e1,natAbs_mul,Int.natAbs_natCast];exact Ý3 _ g1
 ·rw[e2,natAbs_mul,Int.natAbs_natCast];exact Ý3 _ g1
theorem Bs.sub(hc:Bs n c)(hd:Bs n d):Bs (n + n + 1) (G42 c d):=by
 have b0:=Ê2 hc.b0 hd.b0;obtain⟨h1,h2⟩:=d11 (t:=c.1 * d.2 + -d.1 * c.2) b0;have k1:=u10 hc.t hd.b;have k2:=u10 hd.neg.t hc.b;have k3:=u10 hc.b hd.b;have e:2 ^ (n + n + 1)=2 ^ (n + n) + 2 ^ (n + n):=by rw[pow_succ];omega
 have k2:(-d.1 * c.2).natAbs<=2 ^ (n + n):=k2;exact⟨by show(j40 _ _).1.natAbs<=_;omega,y50 b0,by show(j40 _ _).2.natAbs<=_;omega⟩
theorem n91(k:Nat)(hc:Bs n c)(hd:Bs n d)(hn:n<=3999)(z:Z):a70 T (k + 3) T50 [.d (pr c),.d (pr d)] z=some (.ok (.d (.bl (decide (c.1 * d.2 < d.1 * c.2)))) z):=by
 refine W.ok (g00 (ps:=2) (ns:=2) (b:=F70) rfl rfl (-0) ?_)
 refine(a00 (G80 hn hc.t hd.b) ?_ :);refine(a00 (G80 hn hd.t hc.b) ?_ :);exact sd rfl
def o31:Option Nat->D
 |none=>.non|some i=>c60 i
abbrev lf(l:List (Int × Int))(i:Nat):Int × Int:=l.getD i (0,1)
def fg(l:List (Int × Int)):Nat->Option Nat
 |0=>none
 |j + 1=>match fg l j with
  |none=>some j|some i=>if (lf l i).1 * (lf l j).2 < (lf l j).1 * (lf l i).2 then some j else some i
theorem d82:∀ {j i:Nat},fg l j=some i->i < j
 |j + 1,i,h=>by
  unfold fg at h;split at h
  ·cases h;omega
  ·rename_i i' e;have:=d82 e;split at h <;> (cases h;omega)
theorem j91(h:i < l.length):lf l i∈l:=by rw[lf,Ó,Ð h];exact Á2 h
theorem W40{i:Nat}(h:i < l.length):L40 (.lst (l.map pr)) (.int i)=some (pr (lf l i)):=by
 rw[lf,Ó,Ð h];exact N30 (by rw[Ø,Ð h];rfl)
theorem C91(h:j < l.length):(l.drop j).map pr=pr (lf l j)::(l.drop (j + 1)).map pr:=by
 rw[Ã5 h,lf,Ó,Ð h];rfl
theorem z00(k:Nat){n:Nat}(hb:∀ c∈l,Bs n c)(hn:n<=3999)(z:Z):a70 T (k + 4) n40 [.d (.lst (l.map pr))] z=some (.ok (.d (o31 (fg l l.length))) z):=by
 refine W.ok (g00 (ps:=1) (ns:=4) (b:=h00) rfl rfl (-0) ?_)
 refine o70 (λxs ρ z1=>z1=z/\∃ (j:Nat) (o2 o3:Option S),j<=l.length/\xs=B30 ((l.drop j).map pr) j/\ρ=[some (.d (.lst (l.map pr))),some (.d (o31 (fg l j))),o2,o3]) _ ⟨rfl,0,none,none,Å8 _,rfl,(itE (by show(j10 _&&true)=true;rw[w50];rfl)).trans rfl⟩ ?_ ?_
 ·rintro x r ρ z1 ⟨rfl,j,o2,o3,hj,e,rfl⟩;by_cases h:j < l.length
  ·rw[C91 h] at e;cases e;cases hf:fg l j with
   |none=>exact⟨rfl,j + 1,_,_,h,rfl,by rw[fg,hf];rfl⟩
   |some i =>
    have hi:=d82 hf;refine(a00 (W40 (l:=l) (i:=i) ∅) ?_ :)
    refine Wo (n91 k (hb _ (j91 ∅)) (hb _ (j91 h)) hn z1) (ib (b:=decide _) (λhd=>?_) λhd=>?_)
    ·rw[decide_eq_true_eq] at hd;exact⟨rfl,j + 1,_,_,h,rfl,by rw[fg,hf];simp only[if_pos hd];rfl⟩
    ·rw[decide_eq_false_iff_not] at hd;exact⟨rfl,j + 1,_,_,h,rfl,by rw[fg,hf];simp only[if_neg hd];rfl⟩
  ·rw[Ñ4 ∅] at e;cases e
 ·rintro ρ z1 ⟨rfl,j,o2,o3,hj,e,rfl⟩;by_cases h:j < l.length
  ·rw[C91 h] at e;cases e
  ·have hj:j=l.length:=by omega
   subst hj;exact sd rfl
section
variable {m:Int}{ps cs:List (Int × Int)}{pl:List Nat}{c:Int × Int}
theorem s80(ha:∀ c∈cs,IsC c)(hc:IsC c):∀ d∈cs.set n c,IsC d:=λd hd=>by
 rcases List.mem_or_eq_of_mem_set hd with h | h
 ·exact ha d h
 ·rw[h];exact hc
theorem d92(h:n < cs.length):cutD (cs.map pr) none (some (n:Int))++[pr c]++cutD (cs.map pr) (some ((n:Int) + 1)) none=(cs.set n c).map pr:=by
 rw[j01 _ ∅,Ã2,show((n:Int) + 1)=((n + 1:Nat):Int) by omega,j90,Õ6,if_pos h,Ã9,Å1,Ê4,map_take,map_drop];rfl
theorem e02(hl:cs.length<=8)(h:n < cs.length):B20 .add (.tup (cutD (cs.map pr) none (some (n:Int)))) (.tup [pr c])=some (.d (.tup (cutD (cs.map pr) none (some (n:Int))++[pr c])))/\B20 .add (.tup (cutD (cs.map pr) none (some (n:Int))++[pr c])) (.tup (cutD (cs.map pr) (some ((n:Int) + 1)) none))=some (.d (.tup ((cs.set n c).map pr))):=by
 have e1:(cutD (cs.map pr) none (some (n:Int))).length<=8:=by rw[j01 _ ∅,Ã4,È];omega
 have e2:(cutD (cs.map pr) (some ((n:Int) + 1)) none).length<=8:=by rw[show((n:Int) + 1)=((n + 1:Nat):Int) by omega,j90,Å2,È];omega
 refine⟨V80 (by show _ + 1<=_;omega),?_⟩
 rw[V80 (by rw[R91];omega),d92 h]
theorem s90(k:Nat)(hl:cs.length<=8)(h:n < cs.length)(z:Z):a70 T (k + 3) m40 [.d (.tup (cs.map pr)),.d (.int n),.d (pr c)] z=some (.ok (.d (.tup ((cs.set n c).map pr))) z):=by
 obtain⟨e1,e2⟩:=e02 (c:=c) hl h;refine W.ok (g00 (ps:=3) (ns:=3) (b:=m60) rfl rfl (-0) ?_)
 refine(a00 e1 ?_ :);refine(a00 e2 ?_ :);exact sd rfl
def R82:D->Nat
 |.int i=>i.toNat|_=>0
end
structure Rt(v:Int × Int)(t b:Int):Prop where
 b0:0 < v.2
 one:gcd v.1 v.2=1
 eq:v.1 * b=t * v.2
theorem Rt.low{t b:Int}(hb:0 < b):Rt (j40 t b) t b:=⟨y50 hb,c41 hb,by rw[V90 hb,Ç8]⟩
theorem Rt.conv{v:Int × Int}{t b t' b':Int}(h:Rt v t b)(hb:0 < b)(e:t * b'=t' * b):Rt v t' b':=by
 refine⟨h.b0,h.one,Î3 (a:=b) ∅ ?_⟩
 have:=h.eq
 calc v.1 * b' * b=(v.1 * b) * b':=by grind
  _=(t * b') * v.2:=by rw[this];grind
  _=t' * v.2 * b:=by rw[e];grind
theorem Rt.eqv{v w:Int × Int}{t b:Int}(hv:Rt v t b)(hw:Rt w t b)(hb:0 < b):v=w:=by
 have e:v.1 * w.2=w.1 * v.2:=by
  have h1:=hv.eq;have h2:=hw.eq;refine Î3 (a:=b) ∅ ?_
  calc v.1 * w.2 * b=(v.1 * b) * w.2:=by grind
   _=(t * w.2) * v.2:=by rw[h1];grind
   _=w.1 * v.2 * b:=by rw[← h2];grind
 obtain⟨a,b'⟩:=n51 hv.b0 hw.b0 hv.one hw.one e;exact Prod.ext a b'
theorem Rt.add{v w:Int × Int}{t b t' b':Int}(hv:Rt v t b)(hw:Rt w t' b'):Rt (j40 (v.1 * w.2 + w.1 * v.2) (v.2 * w.2)) (t * b' + t' * b) (b * b'):=by
 have y:=Ê2 hv.b0 hw.b0;refine(Rt.low y).conv y ?_;have h1:=hv.eq;have h2:=hw.eq
 calc (v.1 * w.2 + w.1 * v.2) * (b * b')=(v.1 * b) * (w.2 * b') + (w.1 * b') * (v.2 * b):=by grind
  _=(t * b' + t' * b) * (v.2 * w.2):=by rw[h1,h2];grind
theorem Rt.mul{v w:Int × Int}{t b t' b':Int}(hv:Rt v t b)(hw:Rt w t' b'):Rt (j40 (v.1 * w.1) (v.2 * w.2)) (t * t') (b * b'):=by
 have y:=Ê2 hv.b0 hw.b0;refine(Rt.low y).conv y ?_;have h1:=hv.eq;have h2:=hw.eq
 calc v.1 * w.1 * (b * b')=(v.1 * b) * (w.1 * b'):=by grind
  _=t * t' * (v.2 * w.2):=by rw[h1,h2];grind
theorem IsC.rt{c:Int × Int}(h:IsC c):Rt c c.1 c.2:=⟨by have:=h.1;omega,h.2.2.2.2,rfl⟩
theorem t72:IsC (1,1):=⟨by decide,by decide,by decide,by decide,by decide⟩
theorem t82:IsC (0,1):=⟨by decide,by decide,by decide,by decide,by decide⟩
theorem Bs.up{n m:Nat}{c:Int × Int}(h:Bs n c)(hm:n<=m):Bs m c :=
 have e:=Ë6 (n:=2) (-0) hm
 ⟨Þ h.t e,h.b0,Þ h.b e⟩
theorem Bs.low{n:Nat}{t b:Int}(h0:0 < b)(ht:t.natAbs<=2 ^ n)(hb:b.natAbs<=2 ^ n):Bs n (j40 t b) :=
 ⟨Þ (d11 h0).1 ht,y50 h0,Þ (d11 h0).2 hb⟩
theorem Bs.mul{n:Nat}{c d:Int × Int}(hc:Bs n c)(hd:Bs n d):Bs (n + n) (j40 (c.1 * d.1) (c.2 * d.2)):=.low (Ê2 hc.b0 hd.b0) (u10 hc.t hd.t) (u10 hc.b hd.b)
section
variable {m:Int}{ps cs:List (Int × Int)}{pl:List Nat}{c:Int × Int}
def w80(m:Int)(ps cs:List (Int × Int))(pl:List Nat)(n:Nat):Int × Int:=G42 (p80 m ps (cs.set n (1,1)) pl) (p80 m ps (cs.set n (0,1)) pl)
theorem N31(g:f80 m ps)(hp:f90 m pl)(hc:cs.length=ps.length)(ha:∀ c∈cs,IsC c){n:Nat}:Bs 161 (w80 m ps cs pl n) :=
 (r40 g hp (by rw[Á0];exact hc) (s80 ha t72)).s.sub (r40 g hp (by rw[Á0];exact hc) (s80 ha t82)).s
theorem N41(k:Nat)(g:f80 m ps)(hp:f90 m pl)(hc:cs.length=ps.length)(ha:∀ c∈cs,IsC c){n:Nat}(h:n < ps.length)(z:Z):a70 T (k + 7) A01 [.d (.tup (cs.map pr)),.d (.lst ((j81 m ps pl).map n30)),.d (.int n)] z=some (.ok (.d (pr (w80 m ps cs pl n))) z):=by
 have h8:=g.len;have hc':∀ c,(cs.set n c).length=ps.length:=λc=>by rw[Á0];exact hc
 exact W.ok (g00 (ps:=3) (ns:=4) (b:=b71) rfl rfl (-0) (Wo (s90 (k + 3) (c:=(1,1)) ∅ ∅ z) (Wo (w70 (k + 1) g (hc' _) (s80 ha t72) z) (Wo (s90 (k + 3) (c:=(0,1)) ∅ ∅ z) (Wo (w70 (k + 1) g (hc' _) (s80 ha t82) z) (Wo (N21 k (r40 g hp (hc' _) (s80 ha t72)).s (r40 g hp (hc' _) (s80 ha t82)).s (-0) z) (sd rfl)))))))
abbrev p90(m:Int)(ps cs:List (Int × Int))(pl:List Nat):List (Int × Int):=(î ps.length).map (w80 m ps cs pl)
theorem W50(g:f80 m ps)(hp:f90 m pl)(hc:cs.length=ps.length)(ha:∀ c∈cs,IsC c):∀ d∈p90 m ps cs pl,Bs 161 d:=λd hd=>by
 obtain⟨n,_,rfl⟩:=á.mp hd;exact N31 g hp hc ha
theorem W60(k:Nat)(g:f80 m ps)(hp:f90 m pl)(hc:cs.length=ps.length)(ha:∀ c∈cs,IsC c)(z:Z):a70 T (k + 11) d90 [.d (G10 m ps),.d (.tup (cs.map pr)),.d (.tup (pl.map c60))] z=some (.ok (.fr ((p90 m ps cs pl).map pr)) z):=by
 have h6:=hp.len g.m6;have h8:=g.len;refine W.ok (g00 (ps:=3) (ns:=4) (b:=r10) rfl rfl (-0) (Wo (n50 k (m:=m) (ts:=ps.map pr) g.web z (S11 (by rw[È];exact hc) ha)) (Wo (p60 (k + 4) (t:=.tup (ps.map pr)) z hp.pls (decide_eq_true (by rw[È];omega))) (Wo (W20 (k + 1) g hp z) ?_))))
 refine(a00 (o:=itD .rng1 [.int ((cs.map pr).length:Nat)]) (y80 (n:=(cs.map pr).length) (by rw[È];omega)) ?_ :)
 refine ip (by rw[È,List.length_range',È];exact y10 ∅) (i11 (λx=>pr (w80 m ps cs pl (R82 x))) (λx hx=>?_) ?_)
 ·obtain⟨n,hn,rfl⟩:=á.mp hx;rw[List.mem_range'_1,È] at hn;exact Wo (N41 (k + 3) g hp hc ha (n:=n) ∅ z) ⟨rfl,rfl⟩
 ·refine sd ?_;rw[ù,ù,È,hc,Ó3];rfl
theorem d21(k:Nat)(g:f80 m ps)(hp:f90 m pl)(hc:cs.length=ps.length)(ha:∀ c∈cs,IsC c)(z:Z):a70 T (k + 12) e40 [.d (G10 m ps),.d (.tup (cs.map pr)),.d (.tup (pl.map c60))] z=some (.ok (.d (o31 (fg (p90 m ps cs pl) ps.length))) z):=by
 have c1:=z00 (k + 7) (W50 g hp hc ha) (-0) z
 rw[show(p90 m ps cs pl).length=ps.length by rw[È,þ]] at c1
 exact W.ok (g00 (ps:=3) (ns:=3) (b:=r20) rfl rfl (-0) (Wo (W60 k g hp hc ha z) (Wo c1 (sd rfl))))
end
def W70(x:D):Prop:=x=.dct∨okD x=true
theorem G52{x:D}{l:List D}(h:W70 x)(hl:okD (.tup l)=true):∃ b,B90 .ne x (.tup l)=some b:=by
 rcases h with rfl | h
 ·exact⟨true,rfl⟩
 ·show ∃ b,neO x (.tup l)=some b;unfold neO;split
  ·exact⟨_,rfl⟩
  ·unfold eqO;rw[h,hl];exact⟨_,rfl⟩
theorem W80:∀ {a b:List D},e10 (a++b)=(e10 a&&e10 b)
 |[],b=>rfl
 |x::a,b=>by
  show(t30 x&&e10 (a++b))=((t30 x&&e10 a)&&e10 b);rw[W80,Bool.and_assoc]
theorem W90:∀ {a b:List D},f10 (a++b)=Ò1 (f10 a) (f10 b)
 |[],b=>(Nat.zero_max _).symm
 |x::a,b=>by
  show Ò1 (deep x) (f10 (a++b))=Ò1 (Ò1 (deep x) (f10 a)) (f10 b);rw[W90];exact(Nat.max_assoc _ _ _).symm
theorem w90{a b:List D}(ha:O70 a=true)(hb:O70 b=true):O70 (a++b)=true:=by
 unfold O70 at ha hb ⊢;rw[Á,decide_eq_true_eq] at ha hb ⊢;rw[W80,W90,ha.1,hb.1];exact⟨rfl,Nat.max_le.mpr ⟨ha.2,hb.2⟩⟩
theorem O40(l:List (Int × Int)):O70 (l.map pr)=true:=by
 obtain⟨h1,h2⟩:=c72 l;unfold O70;rw[h1,Æ4,decide_eq_true_eq];omega
theorem D01{l:List D}(h:O70 l=true):okD (.tup l)=true:=by
 unfold O70 at h;unfold okD;rw[Á,decide_eq_true_eq] at h ⊢;exact⟨h.1,by show f10 l + 1<=40;omega⟩
theorem N51{x:D}(h:t30 x=true)(h2:deep x<=39):O70 [x]=true:=by
 unfold O70;rw[Á,decide_eq_true_eq];refine⟨by show(t30 x&&true)=true;rw[h];rfl,?_⟩
 show Ò1 (deep x) 0<=39;exact Nat.max_le.mpr ⟨h2,by omega⟩
theorem D11{n:Nat}{l:List D}(h:l.length≠n):N00 n (.tup l)=false:=by
 unfold N00;rw[Ý8];exact .inl (beq_eq_false_iff_ne.mpr h)
theorem D21{n:Nat}{a b:List D}{x:D}(h:chD x=false):N00 n (.tup (a++[x]++b))=false:=by
 unfold N00;rw[Ý8];refine .inr ?_;rw[List.all_append,List.all_append];simp[h]
theorem e12{l:List (Int × Int)}:B90 .ne (.tup (l.map pr)) (.tup [])=some (!(l.map pr).isEmpty):=by
 show(eqO (.tup (l.map pr)) (.tup [])).map (!·)=_;unfold eqO;rw[B31];cases l <;> rfl
theorem O50(k:Nat){w:D}{cs:List (Int × Int)}(hl:cs.length<=8){z:Z}(hz:ZI z):W (a70 T (k + 4) j70 [.z,.d w,.d (.tup (cs.map pr))]) z (λs z1=>ZI z1/\∃ x,s=.d x/\N00 cs.length x=false/\W70 x) NE:=by
 have hll:(cs.map pr).length=cs.length:=È _;refine L61 hz (ps:=3) (ns:=6) (b:=f00) rfl rfl (-0) ?_
 refine(d80 k (((cs.map pr).length:Int) + 1) hz ∅ ∅).imp λs z1 ⟨hz1,a,e,a1⟩=>?_
 subst e;refine(d80 k 13 hz1 (-0) (-0)).imp λs z2 ⟨hz2,v,e,v1⟩=>?_
 subst e;refine(B61 (n:=v) (λx=>!chD x&&(t30 x&&decide (deep x<=39))) ?_ ?_ ?_ :)
 ·show v < 13;omega
 ·decide +kernel
 ·intro x hx;rw[Á,Á,ð,decide_eq_true_eq] at hx;obtain⟨x1,x2,x3⟩:=hx;have ea:cutD (cs.map pr) none (some (a:Int))=(cs.map pr).take a:=by rw[j01 _ ∅,Ã2]
  have eb:cutD (cs.map pr) (some ((a:Int) + 1)) none=(cs.map pr).drop (a + 1):=j90 _ (a + 1);have ec:cutD (cs.map pr) (some (a:Int)) none=(cs.map pr).drop a:=j90 _ a;have ed:cutD (cs.map pr) (some 1) none=(cs.map pr).drop 1:=j90 _ 1;have la:(cutD (cs.map pr) none (some (a:Int))).length<=8:=by rw[ea,Ã4];omega
  have lb:(cutD (cs.map pr) (some ((a:Int) + 1)) none).length<=8:=by rw[eb,Å2];omega
  have lc:(cutD (cs.map pr) (some (a:Int)) none).length<=8:=by rw[ec,Å2];omega
  have t1:=V80 (a:=cutD (cs.map pr) none (some (a:Int))) (b:=[x]) (by show _ + 1<=_;omega)
  have l1:(cutD (cs.map pr) none (some (a:Int))++[x]).length<=9:=by rw[R91];omega
  refine(a00 t1 ?_ :);refine(a00 (V80 (a:=cutD (cs.map pr) none (some (a:Int))++[x]) (b:=cutD (cs.map pr) (some ((a:Int) + 1)) none) ∅) ?_ :)
  refine(a00 (V80 (a:=cs.map pr) (b:=[.tup [.int 1,.int 2]]) (by show _ + 1<=_;omega)) ?_ :)
  refine(a00 t1 ?_ :);refine(a00 (V80 (a:=cutD (cs.map pr) none (some (a:Int))++[x]) (b:=cutD (cs.map pr) (some (a:Int)) none) ∅) ?_ :)
  refine(a00 (e12 (l:=cs)) ?_ :);have o1:O70 ((cs.map pr).take a)=true:=by rw[← map_take];exact O40 _
  have o2:∀ j,O70 ((cs.map pr).drop j)=true:=λj=>by rw[← map_drop];exact O40 _
  have ox:=N51 x2 x3;have fin:∀ y,N00 cs.length y=false->W70 y->∀ q∈[D.tup (cutD (cs.map pr) none (some (a:Int))++[x]++cutD (cs.map pr) (some ((a:Int) + 1)) none),.tup (cs.map pr++[.tup [.int 1,.int 2]]),.lst (cs.map pr),.non,.dct,.tup (cutD (cs.map pr) none (some (a:Int))++[x]++cutD (cs.map pr) (some (a:Int)) none),y],N00 cs.length q=false/\W70 q:=λy y1 y2 q hq=>by
   rw[ea,eb,ec] at hq;simp only[Á7,Á6,or_false] at hq;rcases hq with rfl | rfl | rfl | rfl | rfl | rfl | rfl
   ·exact⟨D21 x1,.inr (D01 (w90 (w90 o1 ox) (o2 _)))⟩
   ·exact⟨D11 (by rw[R91,hll];omega),.inr (D01 (w90 (O40 cs) (-0)))⟩
   ·exact⟨rfl,.inr (D01 (O40 cs))⟩
   ·exact⟨rfl,.inr rfl⟩
   ·exact⟨rfl,.inl rfl⟩
   ·exact⟨D21 x1,.inr (D01 (w90 (w90 o1 ox) (o2 _)))⟩
   ·exact⟨y1,y2⟩
  have pick:∀ (L:List D),L.length=7->(∀ q∈L,N00 cs.length q=false/\W70 q)->∀ (j:D) (z3:Z),ZI z3->btw 0 6 j=true->∃ y,L40 (.lst L) j=some y/\(ZI z3/\∃ x,S.d y=.d x/\N00 cs.length x=false/\W70 x):=λL h7 h j z3 hz3 hj=>by
   obtain⟨i,rfl,i0,i1⟩:=i91 hj;obtain⟨i,rfl⟩:=É3 i0;have hlt:i < L.length:=by omega
   exact⟨L[i],N30 (Ð hlt),hz3,_,rfl,h _ (Á2 hlt)⟩
  cases hc:cs with
  |nil =>
   subst hc;refine(d80 k 10 hz2 (-0) (-0)).imp λs z3 ⟨hz3,u,e,u1⟩=>?_
   subst e;refine(B61 (n:=u) (btw 0 6) ?_ ?_ ?_ :)
   ·show u < 10;omega
   ·decide
   ·intro j hj;obtain⟨y,ey,q⟩:=pick _ rfl (fin .non rfl (.inr rfl)) j z3 hz3 hj;refine(a00 ey ?_ :);exact q
  |cons c r =>
   rw[← hc];have hd:N00 cs.length (.tup (cutD (cs.map pr) (some 1) none))=false:=by
    rw[ed];refine D11 ?_;rw[Å2,hll,hc,Ô];omega
   have hemp:(cs.map pr).isEmpty=false:=by rw[hc];rfl
   refine it (b:=!(cs.map pr).isEmpty) (by rw[hemp];rfl) ?_
   refine(d80 k 10 hz2 (-0) (-0)).imp λs z3 ⟨hz3,u,e,u1⟩=>?_
   subst e;refine(B61 (n:=u) (btw 0 6) ?_ ?_ ?_ :)
   ·show u < 10;omega
   ·decide
   ·intro j hj;obtain⟨y,ey,q⟩:=pick _ rfl (fin _ hd (.inr (D01 (by rw[ed];exact o2 1)))) j z3 hz3 hj
    refine(a00 ey ?_ :);exact q
theorem eq_self(h:okD x=true)(hs:e62 .seq x=false):B90 .eq x x=some true:=by
 show(if okD x&&okD x then some (eqD x x) else eqE x x)=some true;rw[h];cases x with
 |non=>rfl|bl b=>show some (b == b)=_;rw[beq_self_eq_true]|int i=>show some (i == i)=_;rw[beq_self_eq_true]|str s=>show some (s == s)=_;rw[beq_self_eq_true]|tup l=>cases hs
 |lst l=>cases hs
 |dct=>rfl
theorem O60:∀ {l:List D}{d:D},d∈s10 l l->∃ x∈l,d=.tup [x,x]
 |x::r,d,h=>by
  rcases ô.mp h with h | h
  ·exact⟨x,Ê,h⟩
  ·obtain⟨u,hu,e⟩:=O60 h;exact⟨u,É _ hu,e⟩
mutual
noncomputable def flat:Nat->D->Bool
 |_,.non=>true|_,.bl _=>true|_,.int _=>true|_,.str _=>false|0,.tup _=>false|d + 1,.tup l=>decide (l.length<=1000)&&N61 d l|_,.lst _=>false|_,.dct=>false
noncomputable def N61:Nat->List D->Bool
 |_,[]=>true|d,x::r=>flat d x&&N61 d r
end
theorem X00:∀ {d:Nat}{l:List D}{x:D},N61 d l=true->x∈l->flat d x=true
 |d,y::r,x,h,hx=>by
  unfold N61 at h;rw[Á] at h;rcases ô.mp hx with rfl | hx
  ·exact h.1
  ·exact X00 h.2 hx
theorem d31:∀ (d k:Nat) (x:D) (z:Z),flat d x=true->a70 T (k + d + 3) e20 [.d x,.d x] z=some (.ok (.d (.bl true)) z):=by
 have one:∀ (k:Nat) (x:D) (z:Z),okD x=true->e62 .seq x=false->a70 T (k + 3) e20 [.d x,.d x] z=some (.ok (.d (.bl true)) z):=λk x z h hs=>by
  refine W.ok (g00 (ps:=2) (ns:=2) (b:=i80) rfl rfl (-0) (ie hs ?_))
  refine(a00 (eq_self h hs) ?_ :);cases x with
  |tup l=>cases hs
  |lst l=>cases hs
  |_=>exact sb rfl
 intro d
 induction d with
 |zero =>
  intro k x z h;cases x with
  |non=>exact one k _ z rfl rfl|bl b=>exact one k _ z rfl rfl|int i=>exact one k _ z rfl rfl|_=>unfold flat at h;cases h
 |succ d ih =>
  intro k x z h;cases x with
  |non=>exact one _ _ z rfl rfl|bl b=>exact one _ _ z rfl rfl|int i=>exact one _ _ z rfl rfl
  |tup l =>
   unfold flat at h;rw[Á,decide_eq_true_eq] at h;refine W.ok (g00 (ps:=2) (ns:=2) (b:=i80) rfl rfl (-0) ?_)
   refine ie (b:=!((l.length:Int) == (l.length:Int))) (by rw[beq_self_eq_true];rfl) ?_
   refine ip (c:=(s10 l l).length<=most) (Þ (w40 _ _) (y10 h.1)) (i11 (λ_=>.bl true) (λq hq=>?_) (a00 (A40 (s10 l l) λ_=>true) ?_ :))
   ·obtain⟨x,hx,rfl⟩:=O60 hq;exact Wo (ih k x z (X00 h.2 hx)) ⟨rfl,rfl⟩
   ·exact sb (b:=(s10 l l).all λ_=>true) (ç.mpr λ_ _=>rfl)
  |_=>unfold flat at h;cases h
theorem G62{F:FT}{tp:Bool}{i:Nat}{n n':Ç3}{b:Sm}{ρ:Env}{z:Z}{Q:O->Z->Prop}{E:Nat->Z->Prop}(hi:i < ρ.length)(h:WS F tp b (ρ.set i (some (.fn n))) z (λo z1=>match o with
  |.nx ρ1=>i < ρ1.length/\WS F tp b (ρ1.set i (some (.fn n'))) z1 Q E
  |.rt s=>Q (.rt s) z1) E):W (X01 i (ex F tp b) [n,n'] ρ) z Q E:=by
 show W ((if i < ρ.length then M.bind (ex F tp b (ρ.set i (some (.fn n)))) λo=>match o with | .nx ρ=>X01 i (ex F tp b) [n'] ρ | .rt s=>M.ret (.rt s) else M.no)) z Q E
 rw[if_pos hi];refine l10.mpr ((F10.mp h).mono (λo z1 h=>?_) λ_ _ h=>h);cases o with
 |rt s=>exact w00.mpr h
 |nx ρ1 =>
  show W ((if i < ρ1.length then M.bind (ex F tp b (ρ1.set i (some (.fn n')))) λo=>match o with | .nx ρ=>M.ret (.nx ρ) | .rt s=>M.ret (.rt s) else M.no)) z1 Q E
  rw[if_pos h.1];refine l10.mpr ((F10.mp h.2).mono (λo z2 h=>?_) λ_ _ h=>h);cases o <;> exact w00.mpr h
section
variable {m:Int}{ps cs:List (Int × Int)}{pl:List Nat}{c:Int × Int}
abbrev woE(m:Int)(ps cs:List (Int × Int))(pl:List Nat)(n:Nat)(l:List D)(o5:Option S):Env:=[some (.d (G10 m ps)),some (.d (.tup (cs.map pr))),some (.d (.tup (pl.map c60))),some (.d (.int n)),some (.fr l),o5]
theorem X10(k:Nat)(g:f80 m ps)(hp:f90 m pl)(hc:cs.length=ps.length)(ha:∀ c∈cs,IsC c){n:Nat}(h:n < ps.length)(z:Z):a70 T (k + 6) A20 [.d (G10 m ps),.d (.tup (cs.map pr)),.d (.tup (pl.map c60)),.d (.int n)] z=some (.ok (.d (pr (w80 m ps cs pl n))) z):=by
 have h8:=g.len;have hc':∀ c,(cs.set n c).length=ps.length:=λc=>by rw[Á0];exact hc
 obtain⟨e1,e2⟩:=e02 (cs:=cs) (n:=n) (c:=(1,1)) ∅ ∅
 obtain⟨f1,f2⟩:=e02 (cs:=cs) (n:=n) (c:=(0,1)) ∅ ∅
 refine W.ok (g00 (ps:=4) (ns:=6) (b:=p30) rfl rfl (-0) ?_)
 refine o70 (λxs ρ z1=>z1=z/\∃ o5:Option S,(xs=[pr (1,1),pr (0,1)]/\ρ=woE m ps cs pl n [] o5)∨(xs=[pr (0,1)]/\ρ=woE m ps cs pl n [pr (p80 m ps (cs.set n (1,1)) pl)] o5)∨(xs=[]/\ρ=woE m ps cs pl n [pr (p80 m ps (cs.set n (1,1)) pl),pr (p80 m ps (cs.set n (0,1)) pl)] o5)) _ ⟨rfl,none,.inl ⟨rfl,rfl⟩⟩ ?_ ?_
 ·rintro x r ρ z1 ⟨rfl,o5,⟨e,rfl⟩ | ⟨e,rfl⟩ | ⟨e,rfl⟩⟩
  ·cases e;refine(a00 e1 ?_ :);refine(a00 e2 ?_ :);refine Wo (A80 k g hp (hc' _) (s80 ha t72) z1) ?_;exact⟨rfl,_,.inr (.inl ⟨rfl,rfl⟩)⟩
  ·cases e;refine(a00 f1 ?_ :);refine(a00 f2 ?_ :);refine Wo (A80 k g hp (hc' _) (s80 ha t82) z1) ?_;exact⟨rfl,_,.inr (.inr ⟨rfl,rfl⟩)⟩
  ·cases e
 ·rintro ρ z1 ⟨rfl,o5,⟨e,rfl⟩ | ⟨e,rfl⟩ | ⟨e,rfl⟩⟩
  ·cases e
  ·cases e
  ·refine Wo (n81 (k + 1) (r40 g hp (hc' _) (s80 ha t72)).s (show Bs 80 (0 - (p80 m ps (cs.set n (0,1)) pl).1,(p80 m ps (cs.set n (0,1)) pl).2) from by rw[Int.zero_sub];exact(r40 g hp (hc' _) (s80 ha t82)).s.neg) (-0) z1) (sd ?_)
   show S.d (pr (j40 (_ + (0 - _) * _) _))=_;rw[Int.zero_sub];rfl
theorem k01(k:Nat)(g:f80 m ps)(hc:cs.length=ps.length)(ha:∀ c∈cs,IsC c){l:D}(hy:M01 m l=false)(hs:short l=true)(z:Z):a70 T (k + 11) d90 [.d (G10 m ps),.d (.tup (cs.map pr)),.d l] z=some (.er 2 z) :=
 W.er (g00 (ps:=3) (ns:=4) (b:=r10) rfl rfl (-0) (Wo (n50 k (m:=m) (ts:=ps.map pr) g.web z (S11 (by rw[È];exact hc) ha)) (We (F90 (k + 4) (t:=.tup (ps.map pr)) z hy hs) ⟨rfl,d20 z⟩)))
theorem k21(k:Nat)(g:f80 m ps){b l:D}(hb:N00 ps.length b=false)(z:Z):a70 T (k + 11) d90 [.d (G10 m ps),.d b,.d l] z=some (.er 6 z) :=
 W.er (g00 (ps:=3) (ns:=4) (b:=r10) rfl rfl (-0) (We (B50 k (m:=m) (ts:=ps.map pr) g.web z (by rw[È];exact hb)) ⟨rfl,d20 z⟩))
theorem k31(k:Nat){w b l:D}(hw:O90 w=false)(z:Z):a70 T (k + 11) d90 [.d w,.d b,.d l] z=some (.er 0 z) :=
 W.er (g00 (ps:=3) (ns:=4) (b:=r10) rfl rfl (-0) (We (B60 k hw b z) ⟨rfl,d20 z⟩))
theorem d41(k:Nat){a b l:D}{c:Nat}{z:Z}(h:a70 T (k + 11) d90 [.d a,.d b,.d l] z=some (.er c z)):a70 T (k + 12) e40 [.d a,.d b,.d l] z=some (.er c z) :=
 W.er (g00 (ps:=3) (ns:=3) (b:=r20) rfl rfl (-0) (We h ⟨rfl,d20 z⟩))
theorem d51{l:List (Int × Int)}{j:Nat}:fg l (j + 1)=match fg l j with
  |none=>some j|some i=>if (lf l i).1 * (lf l j).2 < (lf l j).1 * (lf l i).2 then some j else some i:=rfl
theorem o01(k:Nat){n:Nat}{l:List (Int × Int)}(hb:∀ c∈l,Bs n c)(hn:n<=3999)(hl:l.length<=8)(z:Z):a70 T (k + 3) A30 [.d (.lst (l.map pr))] z=some (.ok (.d (o31 (fg l l.length))) z):=by
 refine W.ok (g00 (ps:=1) (ns:=3) (b:=p40) rfl rfl (-0) ?_)
 refine(a00 (o:=itD .rng1 [.int ((l.map pr).length:Nat)]) (y80 (n:=(l.map pr).length) (by rw[È];omega)) ?_ :)
 refine o70 (λxs ρ z1=>z1=z/\∃ (j r:Nat) (o2:Option S),j + r=l.length/\xs=(À7 j r).map c60/\ρ=[some (.d (.lst (l.map pr))),some (.d (o31 (fg l j))),o2]) _ ⟨rfl,0,l.length,_,Í1 _,by rw[È],rfl⟩ ?_ ?_
 ·rintro x r ρ z1 ⟨rfl,j,r',o2,hj,e,rfl⟩;cases r' with
  |zero=>cases e
  |succ r' =>
   rw[À2] at e;cases e;have hj':j < l.length:=by omega
   cases hf:fg l j with
   |none =>
    have q:z1=z1/\∃ (j0 r0:Nat) (o2:Option S),j0 + r0=l.length/\(À7 (j + 1) r').map c60=(À7 j0 r0).map c60/\[some (S.d (.lst (l.map pr))),some (.d (c60 j)),some (.d (c60 j))]=[some (S.d (.lst (l.map pr))),some (S.d (o31 (fg l j0))),o2]:=⟨rfl,j + 1,r',_,by omega,rfl,by rw[d51,hf];rfl⟩
    exact q
   |some i =>
    have hi:i < l.length:=Nat.lt_trans (d82 hf) hj';have bi:=hb _ (j91 hi);have bj:=hb _ (j91 hj');refine(a00 (W40 hj') ?_ :);refine(a00 (W40 hi) ?_ :);refine(a00 (G80 hn bj.t bi.b) ?_ :);refine(a00 (W40 hi) ?_ :);refine(a00 (W40 hj') ?_ :);refine(a00 (G80 hn bi.t bj.b) ?_ :);refine ib (b:=decide ((lf l i).1 * (lf l j).2 < (lf l j).1 * (lf l i).2)) (λh=>?_) λh=>?_
    ·have q:z1=z1/\∃ (j0 r0:Nat) (o2:Option S),j0 + r0=l.length/\(À7 (j + 1) r').map c60=(À7 j0 r0).map c60/\[some (S.d (.lst (l.map pr))),some (.d (c60 j)),some (.d (c60 j))]=[some (S.d (.lst (l.map pr))),some (S.d (o31 (fg l j0))),o2]:=⟨rfl,j + 1,r',_,by omega,rfl,by
      rw[d51,hf];show _=[_,some (S.d (o31 (if _ then _ else _))),_];rw[if_pos (of_decide_eq_true h)];rfl⟩
     exact q
    ·have q:z1=z1/\∃ (j0 r0:Nat) (o2:Option S),j0 + r0=l.length/\(À7 (j + 1) r').map c60=(À7 j0 r0).map c60/\[some (S.d (.lst (l.map pr))),some (.d (c60 i)),some (.d (c60 j))]=[some (S.d (.lst (l.map pr))),some (S.d (o31 (fg l j0))),o2]:=⟨rfl,j + 1,r',_,by omega,rfl,by
      rw[d51,hf];show _=[_,some (S.d (o31 (if _ then _ else _))),_];rw[if_neg (of_decide_eq_false h)];rfl⟩
     exact q
 ·rintro ρ z1 ⟨rfl,j,r',o2,hj,e,rfl⟩;cases r' with
  |succ r'=>rw[À2] at e;cases e
  |zero =>
   have hj:j=l.length:=hj;subst hj;exact sd rfl
theorem N71(k:Nat){l:List (Int × Int)}(hl:l.length<=1000)(z:Z):a70 T (k + 5) e20 [.d (.lst (l.map pr)),.d (.lst (l.map pr))] z=some (.ok (.d (.bl true)) z):=by
 refine W.ok (g00 (ps:=2) (ns:=2) (b:=i80) rfl rfl (-0) ?_)
 refine ie (b:=!(((l.map pr).length:Int) == ((l.map pr).length:Int))) (by rw[beq_self_eq_true];rfl) ?_
 refine ip (c:=(s10 (l.map pr) (l.map pr)).length<=most) (Þ (w40 _ _) (y10 (by rw[È];exact hl))) (i11 (λ_=>.bl true) (λq hq=>?_) (a00 (A40 (s10 (l.map pr) (l.map pr)) λ_=>true) ?_ :))
 ·obtain⟨x,hx,rfl⟩:=O60 hq;obtain⟨c,_,rfl⟩:=á.mp hx;exact Wo (d31 1 k (pr c) z rfl) ⟨rfl,rfl⟩
 ·exact sb (b:=(s10 (l.map pr) (l.map pr)).all λ_=>true) (ç.mpr λ_ _=>rfl)
theorem N81(k:Nat)(o:Option Nat)(z:Z):a70 T (k + 3) e20 [.d (o31 o),.d (o31 o)] z=some (.ok (.d (.bl true)) z):=by
 cases o with
 |none=>exact d31 0 k _ z rfl|some i=>exact d31 0 k _ z rfl
theorem X20:∀ l:List (Int × Int),j10 (l.map pr)=true
 |[]=>rfl|c::r=>by show(bare (pr c)&&j10 (r.map pr))=true;rw[X20 r];rfl
abbrev lE(ns:List Int)(j:Nat)(m:Int)(ps cs:List (Int × Int))(pl:List Nat)(o6 o7 o8 o9 o10 o11 o12 o13:Option S):Env:=[some (.d (.lst (ns.map D.int))),some (.d (.int j)),some .z,some (.d (G10 m ps)),some (.d (.tup (pl.map c60))),some (.d (.tup (cs.map pr))),o6,o7,o8,o9,o10,o11,o12,o13]
abbrev bIn(n:Nat):Sm:=match L41 with
 |.seq (.fr _ _ _ b) _=>Nat.rec b (λ_ r=>tl r) n|_=>.nil
abbrev bF:Sm:=match bIn 8 with
 |.seq (.frF _ _ _ b) _=>b|_=>.nil
abbrev J42:List (Ç3 × Nat):=[(("worths":Ç3),d90),(("best_tie":Ç3),e40)]
section
variable {ns:List Int}{j:Nat}{z:Z}{bl bw bc:D}{o6 o7 o8 o9:Option S}{Q:O->Z->Prop}{E:Nat->Z->Prop}{f:Nat}{nm:Ç3}
theorem J52(k:Nat)(hf:fnAt J42 (some (some (.fn nm)))=some f)(e0:a70 T (k + 37) f [.d bw,.d bc,.d bl] z=some (.er 0 z))(q:Q (.nx (lE ns j m ps cs pl o6 o7 o8 o9 (some (.d bl)) (some (.d bw)) (some (.d bc)) (some (.fn nm)))) z) :
  WS (S00 T (k + 37 + 2)) true (tl (tl bF)) (lE ns j m ps cs pl o6 o7 o8 o9 (some (.d bl)) (some (.d bw)) (some (.d bc)) (some (.fn nm))) z Q E:=by
 refine(a00 hf ?_ :);refine We e0 ?_;exact q
theorem J62(k:Nat)(hf:fnAt J42 (some (some (.fn nm)))=some f)(e2:a70 T (k + 37) f [.d (G10 m ps),.d (.tup (cs.map pr)),.d bl] z=some (.er 2 z))(e6:a70 T (k + 37) f [.d (G10 m ps),.d bc,.d bl] z=some (.er 6 z))(e0:a70 T (k + 37) f [.d bw,.d bc,.d bl] z=some (.er 0 z))(hne:W70 bc)
  (q:Q (.nx (lE ns j m ps cs pl o6 o7 o8 o9 (some (.d bl)) (some (.d bw)) (some (.d bc)) (some (.fn nm)))) z) :
  WS (S00 T (k + 37 + 2)) true bF (lE ns j m ps cs pl o6 o7 o8 o9 (some (.d bl)) (some (.d bw)) (some (.d bc)) (some (.fn nm))) z Q E:=by
 refine(a00 hf ?_ :);refine We e2 ?_;obtain⟨b,hb⟩:=G52 hne (B31 (l:=cs));refine(a00 hb ?_ :);refine ib (b:=b) (λ_=>?_) λ_=>?_
 ·refine(a00 hf ?_ :);refine We e6 ?_;exact J52 k hf e0 q
 ·exact J52 k hf e0 q
theorem t92(k:Nat)(g:f80 m ps)(hc:cs.length=ps.length)(ha:∀ c∈cs,IsC c)(b1:M01 m bl=false)(b2:short bl=true)(hbw:O90 bw=false)(hbc:N00 ps.length bc=false)(hne:W70 bc){o13:Option S}
  (q:∀ o13:Option S,Q (.nx (lE ns j m ps cs pl o6 o7 o8 o9 (some (.d bl)) (some (.d bw)) (some (.d bc)) o13)) z) :
  WS (S00 T (k + 37 + 2)) true (bIn 8) (lE ns j m ps cs pl o6 o7 o8 o9 (some (.d bl)) (some (.d bw)) (some (.d bc)) o13) z Q E:=by
 refine G62 (by decide:13 < 14) ?_
 refine J62 k (f:=d90) (-0) (k01 (k + 26) g hc ha b1 b2 z) (k21 (k + 26) g hbc z) (k31 (k + 26) hbw z) hne ⟨(show 13 < 14 by decide),?_⟩
 exact J62 k (f:=e40) (-0) (d41 (k + 25) (k01 (k + 25) g hc ha b1 b2 z)) (d41 (k + 25) (k21 (k + 25) g hbc z)) (d41 (k + 25) (k31 (k + 25) hbw z)) hne (q _)
end
abbrev wS(m:Int)(ps cs:List (Int × Int))(pl:List Nat):Option S:=some (.fr ((p90 m ps cs pl).map pr))
theorem e22(k:Nat){ns:List Int}{j:Nat}{z:Z}(g:f80 m ps)(hp:f90 m pl)(hc:cs.length=ps.length)(ha:∀ c∈cs,IsC c){o7 o8 o9 o10 o11 o12 o13:Option S}{Q:O->Z->Prop}{E:Nat->Z->Prop}
  (q:∀ o9:Option S,Q (.nx (lE ns j m ps cs pl (wS m ps cs pl) o7 o8 o9 o10 o11 o12 o13)) z) :
  WS (S00 T (k + 37 + 2)) true (match bIn 5 with | .seq (.fr _ _ _ b) _=>b | _=>.nil) (lE ns j m ps cs pl (wS m ps cs pl) o7 o8 o9 o10 o11 o12 o13) z Q E:=by
 have h8:=g.len;have hw:=W50 g hp hc ha;have hl:(p90 m ps cs pl).length=ps.length:=by rw[È,þ]
 have c1:=o01 (k + 36) hw (-0) (by rw[hl];exact h8) z
 rw[hl] at c1;refine(t02 (.fr ((p90 m ps cs pl).map pr)) (lE ns j m ps cs pl (wS m ps cs pl) o7 o8 (wS m ps cs pl) o10 o11 o12 o13) ?_ ?_ ?_ :)
 ·exact Wo (W60 (k + 28) g hp hc ha z) ⟨rfl,rfl⟩
 ·rw[R61 (show R60 (.fr ((p90 m ps cs pl).map pr))=true from X20 _)];rfl
 refine Wo (N71 (k + 34) (by rw[hl];omega) z) ?_
 refine Wo (d21 (k + 27) g hp hc ha z) (Wo c1 (Wo (N81 (k + 36) _ z) ?_));refine ip ⟨rfl,by rw[È,hl];simp only[most];omega⟩ ?_
 exact q _
theorem N91(k:Nat){ns:List Int}{j:Nat}{z:Z}(g:f80 m ps)(hp:f90 m pl)(hc:cs.length=ps.length)(ha:∀ c∈cs,IsC c)(hz:ZI z){o7 o8 o9 o10 o11 o12 o13:Option S}{Q:O->Z->Prop}{E:Nat->Z->Prop}
  (q:∀ (z:Z) (o6 o7 o8 o9 o10 o11 o12 o13:Option S),Q (.nx (lE ns j m ps cs pl o6 o7 o8 o9 o10 o11 o12 o13)) z) :
  WS (S00 T (k + 37 + 2)) true (bIn 5) (lE ns j m ps cs pl (wS m ps cs pl) o7 o8 o9 o10 o11 o12 o13) z Q E:=by
 have h8:=g.len;refine o70 (λxs ρ z1=>z1=z/\∃ o8 o9:Option S,ρ=lE ns j m ps cs pl (wS m ps cs pl) o7 o8 o9 o10 o11 o12 o13) _ ⟨rfl,_,_,(itE (by rfl)).trans rfl⟩ ?_ ?_
 ·rintro x r ρ z1 ⟨rfl,o8,o9,rfl⟩;refine(e22 k (o8:=some (.d x)) g hp hc ha λo9=>?_ :);exact⟨rfl,_,_,rfl⟩
 ·rintro ρ z1 ⟨rfl,o8,o9,rfl⟩;refine(V00 (k + 35) (t:=.tup (ps.map pr)) g.m1 hz).imp λs z2 ⟨hz2,bl,e,b1,b2⟩=>?_;subst e;refine(B71 (k + 35) hz2).imp λs z3 ⟨hz3,bw,e,hbw⟩=>?_;subst e;refine(O50 (k + 35) (w:=G10 m ps) (cs:=cs) ∅ hz3).imp λs z4 ⟨hz4,bc,e,hbc,hcm⟩=>?_
  subst e;rw[hc] at hbc;exact t92 k g hc ha b1 b2 hbw hbc hcm λo13=>q _ _ _ _ _ _ _ _ _
theorem O01(k:Nat){ns:List Int}{j:Nat}{z:Z}(g:f80 m ps)(hp:f90 m pl)(hc:cs.length=ps.length)(ha:∀ c∈cs,IsC c)(hz:ZI z){o6 o7 o8 o9 o10 o11 o12 o13:Option S}{Q:O->Z->Prop}{E:Nat->Z->Prop}
  (q:∀ (z:Z) (o6 o7 o8 o9 o10 o11 o12 o13:Option S),Q (.nx (lE ns j m ps cs pl o6 o7 o8 o9 o10 o11 o12 o13)) z) :
  WS (S00 T (k + 37 + 2)) true (bIn 3) (lE ns j m ps cs pl o6 o7 o8 o9 o10 o11 o12 o13) z Q E:=by
 have h8:=g.len;refine(t02 (.fr []) (lE ns j m ps cs pl (some (.fr [])) o7 o8 o9 o10 o11 o12 o13) ?_ ?_ ?_ :)
 ·exact⟨rfl,rfl⟩
 ·rw[R61 rfl];rfl
 refine(a00 (o:=itD .rng1 [.int ((ps.map pr).length:Nat)]) (y80 (n:=(ps.map pr).length) (by rw[È];omega)) ?_ :)
 refine o70 (λxs ρ z1=>z1=z/\∃ (i r:Nat) (o7:Option S),i + r=ps.length/\xs=(À7 i r).map c60/\ρ=lE ns j m ps cs pl (some (.fr (((î i).map (w80 m ps cs pl)).map pr))) o7 o8 o9 o10 o11 o12 o13) _ ⟨rfl,0,ps.length,_,Í1 _,by rw[È],(itE (by rfl)).trans rfl⟩ ?_ ?_
 ·rintro x r ρ z1 ⟨rfl,i,r',o7,hi,e,rfl⟩;cases r' with
  |zero=>cases e
  |succ r' =>
   rw[À2] at e;cases e;refine Wo (X10 (k + 33) g hp hc ha (n:=i) ∅ z1) (ip ⟨rfl,by rw[È,È,þ];simp only[most];omega⟩ ?_)
   have ex:((î i).map (w80 m ps cs pl)).map pr++[pr (w80 m ps cs pl i)]=((î (i + 1)).map (w80 m ps cs pl)).map pr:=by
    rw[range_succ,Ã9,Ã9];rfl
   exact⟨rfl,i + 1,r',_,by omega,rfl,by rw[← ex];rfl⟩
 ·rintro ρ z1 ⟨rfl,i,r',o7,hi,e,rfl⟩;cases r' with
  |succ r'=>rw[À2] at e;cases e
  |zero =>
   have hi:i=ps.length:=hi;subst hi;exact N91 k g hp hc ha hz q
end
theorem e32(b:Bool):∃ mo:Int,L40 (.lst [.int 5,.int 8]) (.int (if b=true then 1 else 0))=some (.int mo)/\0<=mo/\mo<=8:=by
 cases b with
 |true=>exact⟨8,rfl,by decide,by decide⟩|false=>exact⟨5,rfl,by decide,by decide⟩
abbrev v42(L:Int):Int:=if (if (5:Int) < L then 5 else L) > 1 then(if (5:Int) < L then 5 else L) else 1
theorem u02(k:Nat)(ns:List Int):a70 T (k + 40) t12 [.d (.lst (ns.map D.int))] none=some (.ok (.d (.bl true)) none):=by
 refine W.ok (g00 (k:=k + 37) (ps:=1) (ns:=14) (b:=L41) rfl rfl (-0) ?_)
 have hN:0<=v42 ((ns.map D.int).length:Int)/\v42 ((ns.map D.int).length:Int) < 100000:=by
  unfold v42;split <;> (try split) <;> omega
 refine(a00 (N10 (m:=v42 ((ns.map D.int).length:Int)) hN.1 hN.2) ?_ :);refine o70 (λxs ρ z=>(∀ x∈xs,∃ j:Nat,x=.int j)/\∃ o1 o2 o3 o4 o5 o6 o7 o8 o9 o10 o11 o12 o13:Option S,ρ=[some (.d (.lst (ns.map D.int))),o1,o2,o3,o4,o5,o6,o7,o8,o9,o10,o11,o12,o13]) _ ⟨λx hx=>?_,_,_,_,_,_,_,_,_,_,_,_,_,_,rfl⟩ ?_ ?_
 ·obtain⟨i,_,rfl⟩:=á.mp hx;exact⟨i,rfl⟩
 ·rintro x r ρ z1 ⟨hx,o1,o2,o3,o4,o5,o6,o7,o8,o9,o10,o11,o12,o13,rfl⟩;obtain⟨j,rfl⟩:=hx x Ê;obtain⟨sn,sb,hz1,hst⟩:=L71 (k + 35) ns j z1;obtain⟨mo,emo,h0,h8⟩:=e32 ((j:Int) == 0);refine Wo hst ?_;refine(a00 emo ?_ :);refine(B41 (k + 34) hz1 h0 h8).imp λs z2 ⟨hz2,m,ps,e,g,_⟩=>?_;subst e;refine(V10 (k + 35) (t:=.tup (ps.map pr)) g.m1 g.m6 hz2).imp λs z3 ⟨hz3,pl,e,hp⟩=>?_;subst e;refine(N80 (k + 34) (m:=m) (ts:=ps.map pr) hz3 (by rw[È];exact g.len)).imp λs z4 ⟨hz4,cs,e,hc,ha⟩=>?_
  subst e;rw[È] at hc;exact O01 k g hp hc ha hz4 λ_ _ _ _ _ _ _ _ _=>⟨λx hx'=>hx x (É _ hx'),_,_,_,_,_,_,_,_,_,_,_,_,_,rfl⟩
 ·rintro ρ z1 ⟨_,o1,o2,o3,o4,o5,o6,o7,o8,o9,o10,o11,o12,o13,rfl⟩;exact⟨rfl,rfl⟩
theorem pure:∀ ns:List Int,ns.length<=63->a70 (tabOf rows) 40 t12 [.d (.lst (ns.map D.int))] none=some (.ok (.d (.bl true)) none):=λns _=>by
 rw[R62];exact u02 0 ns
end K3
namespace K3
open PySem L2 Q
theorem ok:rows.all (f22 (G40 rows) nums)=true:=by decide +kernel
theorem bd:o60 rows:=⟨λ_ _ _ _ _ _ us hl=>by obtain⟨_,_,rfl⟩:=us2 hl;rfl,
 λ_ _ _ _ _ _ us hl=>by obtain⟨_,_,rfl⟩:=us2 hl;rfl,
 λ_ _ _ _ _ _ us hl=>by obtain⟨_,_,rfl⟩:=us2 hl;rfl,
 λ_ _ _ _ _ _ us hl=>by obtain⟨_,_,rfl⟩:=us2 hl;rfl,
 λ_ _ _ _ _ _ us hl=>by obtain⟨_,_,rfl⟩:=us2 hl;rfl,
 λ_ _ _ _ _ _ us hl=>by obtain⟨_,rfl⟩:=us1 hl;rfl,
 λ_ _ _ _ _ _ us hl=>by obtain⟨_,rfl⟩:=us1 hl;rfl,
 λ_ _ _ _ _ _ us hl=>by obtain⟨_,_,rfl⟩:=us2 hl;rfl,
 λ_ _ _ _ _ _ us hl=>by obtain⟨_,_,rfl⟩:=us2 hl;rfl,
 λ_ _ _ _ _ _ us hl=>by obtain⟨_,_,rfl⟩:=us2 hl;rfl,
 λ_ _ _ _ _ _ us hl=>by obtain⟨_,rfl⟩:=us1 hl;rfl,
 λ_ _ _ _ _ _ us hl=>by obtain⟨_,rfl⟩:=us1 hl;rfl,
 λ_ _ _ _ _ _ us hl=>by obtain⟨_,_,rfl⟩:=us2 hl;rfl,
 λ_ _ _ _ _ _ us hl=>by obtain⟨_,rfl⟩:=us1 hl;rfl,
 λ_ _ _ _ _ _ us hl=>by obtain⟨_,_,rfl⟩:=us2 hl;rfl,
 λ_ _ _ _ _ _ us hl=>by obtain⟨_,_,rfl⟩:=us2 hl;rfl,
 λ_ _ _ _ _ _ us hl=>by obtain⟨_,_,_,rfl⟩:=us3 hl;rfl,
 λ_ _ _ _ _ _ us hl=>by obtain⟨_,rfl⟩:=us1 hl;rfl,
 λ_ _ _ _ _ _ us hl=>by obtain⟨_,_,rfl⟩:=us2 hl;rfl,
 λ_ _ _ _ _ _ us hl=>by obtain⟨_,_,rfl⟩:=us2 hl;rfl,
 λ_ _ _ _ _ _ us hl=>by obtain⟨_,_,_,rfl⟩:=us3 hl;rfl,
 λ_ _ _ _ _ _ us hl=>by obtain⟨_,rfl⟩:=us1 hl;rfl,
 λ_ _ _ _ _ _ us hl=>by obtain⟨_,_,rfl⟩:=us2 hl;rfl,
 λ_ _ _ _ _ _ us hl=>by obtain⟨_,rfl⟩:=us1 hl;rfl,
 λ_ _ _ _ _ _ us hl=>by obtain⟨_,_,rfl⟩:=us2 hl;rfl,
 λ_ _ _ _ _ _ us hl=>by obtain⟨_,_,rfl⟩:=us2 hl;rfl,
 λ_ _ _ _ _ _ us hl=>by obtain⟨_,_,_,rfl⟩:=us3 hl;rfl,
 λ_ _ _ _ _ _ us hl=>by obtain⟨_,_,_,rfl⟩:=us3 hl;rfl,
 λ_ _ _ _ _ _ us hl=>by obtain⟨_,_,_,rfl⟩:=us3 hl;rfl,
 λ_ _ _ _ _ _ us hl=>by obtain⟨_,rfl⟩:=us1 hl;rfl,
 λ_ _ _ _ _ _ us hl=>by obtain⟨_,_,rfl⟩:=us2 hl;rfl,
 λ_ _ _ _ _ _ us hl=>by obtain⟨_,_,_,rfl⟩:=us3 hl;rfl,
 λ_ _ _ _ _ _ us hl=>by obtain⟨_,_,rfl⟩:=us2 hl;rfl,
 λ_ _ _ _ _ _ us hl=>by obtain⟨_,_,_,rfl⟩:=us3 hl;rfl,
 λ_ _ _ _ _ _ us hl=>by obtain⟨_,_,rfl⟩:=us2 hl;rfl,
 λ_ _ _ _ _ _ us hl=>by obtain⟨_,_,rfl⟩:=us2 hl;rfl,
 λ_ _ _ _ _ _ us hl=>by obtain⟨_,_,rfl⟩:=us2 hl;rfl,
 λ_ _ _ _ _ _ us hl=>by obtain⟨_,_,rfl⟩:=us2 hl;rfl,
 λ_ _ _ _ _ _ us hl=>by obtain⟨_,_,rfl⟩:=us2 hl;rfl,
 λ_ _ _ _ _ _ us hl=>by obtain⟨_,_,rfl⟩:=us2 hl;rfl,
 λ_ _ _ _ _ _ us hl=>by obtain⟨_,_,rfl⟩:=us2 hl;rfl,
 λ_ _ _ _ _ _ us hl=>by obtain⟨_,rfl⟩:=us1 hl;rfl,
 λ_ _ _ _ _ _ us hl=>by obtain⟨_,_,rfl⟩:=us2 hl;rfl,
 λ_ _ _ _ _ _ us hl=>by obtain⟨_,_,rfl⟩:=us2 hl;rfl,
 λ_ _ _ _ _ _ us hl=>by obtain⟨_,_,rfl⟩:=us2 hl;rfl,
 λ_ _ _ _ _ _ us hl=>by obtain⟨_,rfl⟩:=us1 hl;rfl,
 λ_ _ _ _ _ _ us hl=>by obtain⟨_,_,_,rfl⟩:=us3 hl;rfl,
 λ_ _ _ _ _ _ us hl=>by obtain⟨_,_,_,_,rfl⟩:=us4 hl;rfl,
 λ_ _ _ _ _ _ us hl=>by obtain⟨_,rfl⟩:=us1 hl;rfl,
 λ_ _ _ _ _ _ us hl=>by obtain⟨_,rfl⟩:=us1 hl;rfl,trivial⟩
theorem hR:r92 rows ["law"] [("_law_refused",top 71)]:=λr hr hlm=>by
 have h:=ç.mp (show rows.all (λr=>!r.lm || (["law"]:List Str).contains r.nm)=true from by decide +kernel) r hr
 rw[hlm] at h;exact⟨Ò7.mp h,top 71,264,.head _,rfl,rfl,λ_ _ _ _ _ _ us hl=>by obtain⟨_,rfl⟩:=us1 hl;rfl⟩
def asks:n70:=H80 rows nums ["law"] [("_law_refused",top 71)]
def prg:Program:=õ
def vq:Program:=view prg [74]
def loose:List Str:=prg.boundNames.filter λx=>!(x == ("law":Str))
def runL(w:ì)(os:OsState):=(F00 PySem.W.through (PySem.W.stepOk 11 (some (.ref 6))) (PySem.W.stepT (denote treeTable) prg w) 20000 (b62 w os) (PySem.W.topStub prg)).map (λs =>
   (PySem.W.staticsOk (Í8 prg.main.body) (PySem.W.boot_heap w.params) s.abs.heap&&PySem.W.namesBound prg s.abs.heap&&PySem.W.gensDone s.abs&&PySem.W.laidKept (PySem.W.boot_heap w.params) s.abs.heap,
    PySem.W.openSeen vq loose (Í8 prg.main.body) (λ_=>true) true s.abs,asks.obs s.abs))
def runR(w:ì):=some (true,PySem.W.openGood vq loose,asks.due w)
def _root_.PySem.W.Fast.tw4821660233203955015:PySem.Program:=õ
theorem _root_.PySem.W.Fast.te4821660233203955015:õ=PySem.W.Fast.tw4821660233203955015:=rfl
theorem twins:(λ(_:runL=runL/\runR=runR)=>true) ⟨rfl,rfl⟩=true:=by k_qdec
theorem run_eq:∀ (w:ì) (os:OsState),PySem.W.Fast.tw14075725262101462980 w os=PySem.W.Fast.tw18139657281711212703 w:=λw os=>by kernel_rfl
theorem left:PySem.W.LeftO õ vq loose (λ_=>true) asks.hook.obs asks.hook.val 20000:=b72 (by kernel_rfl) rfl (λ_=>by kernel_rfl) λw os =>
 (congrFun (congrFun PySem.W.Fast.te14075725262101462980 w) os).trans ((run_eq w os).trans (congrFun PySem.W.Fast.te18139657281711212703 w).symm)
end K3
open PySem PySem.W PyProof.Rows
set_option maxRecDepth 100000 in
set_option maxHeartbeats 0 in
theorem PySem.Challenge.cw_tiechances_k70_worths_of_ties_holds : PySem.Challenge.rw_tiechances_k70_worths_of_ties.Holds := by
 w_on;o_law
 refine holds_open (q:=K3.vq) (loose:=K3.loose) (Xt:=λ_=>true) (XP:=λ_ _=>True) (Yf:=K3.asks.hook.obs) (Ya:=K3.asks.hook.val) (YP:=K3.asks.hook.says) K3.left K3.asks.hook.of K3.asks.hook.keeps (λ_ _=>trivial) (λ_ _ _ _ _=>trivial) (by rfl) (by rfl) (by rfl) (λs _=>recFacts_of rfl) rfl (by first | assumption | decide +kernel) (by decide +kernel) ⟨rfl,rfl,rfl,rfl,rfl,by decide +kernel⟩ ?hw ?hc
 case hw=>w_witness2
 case hc=>exact Q.L31 (l:=PySem.Challenge.rw_tiechances_k70_worths_of_ties) (n:=63) (k:=40) (x:="_law_script") rfl (-0) rfl ⟨rfl,by decide,by decide⟩ (Q.c12 (k:=37) (iL:=49) K3.ok K3.bd rfl rfl rfl (-0) K3.hR K3.pure)