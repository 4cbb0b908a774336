import PyProof.Rows.All
import Wide.All
import OpenK.AllK
import Wide.FinOn
import Lean
import PyProof.EqAt
import PyProof.EqKinds
import PyProof.TupleCall
import KE.KSortTup
import OpenK.KRaise
import OpenK.KOwn
import PyProof.ExcBaseAll.ValueError
import KE.KIsAll
import PyProof.ExcAttrAll.ValueError
import PyProof.NsDelKeeps
import PyProof.RulesAs
import KE.KTryMore
import KE.KLam
import KE.KNestM
import OpenK.KEqL
import PyProof.Rows.EqDataRows
import PyProof.NeKinds
import PyProof.FactsAll.dict
import PyProof.FactsAll.subtypes
import PyProof.ListRange
import PyProof.TupleOfGen
import PyProof.TupleOfSeq
import KE.KTupSum
import PyProof.Rows.SumAny
import PyProof.Rows.MinMaxN
import PySem.Challenge.RW_tiechances_k52_the_trees_paper
local macro_rules
|`(∅)=>`(by omega)
|`(-0)=>`(by decide)
local macro_rules
|`(tactic|omega)=>`(tactic|lia)
open PySem renaming wpAny_bind→À,Value→Ã,Shared→Å,Addr→Æ,wpAny_pure→Ë,Expr→Ñ,wpAny→Ó,model→Ü,Program→ß,mainGlobals→æ,Heap→ë,bootBuiltins→ð,World→ò,Around→ù,Scope→ú,starEach→û,compareOp→ÿ,wpAny_newObj_type→À0,wpAny_truthy_bool→À3,mem_of_lookup→Á1,wpAny_field→Â2,wpAny_mono→Â5,sizeLine_eq→Â8,swappedStores→Ã4,wpAny_callSpecial?_slot→Ä1,Builtin→Ä2,Paired→Ä3,cLine→Ä6,binaryOp→Ä7,FuncData→Ä8,Stmt→Å0,wpAny_holding→Å1,IsPair→Å4,wpAny_seqItems→Æ2,wpAny_call_entry→Æ3,Env→Æ8,wpAny_setField_rec→Ç1,call_meets→Ç4,wpAny_passesOwn→Ç6,rawInt→Ç8,foldedSetIterable→Ç9,assignEach→È3,NameKind→Ê1,codeAny_builtin→Ê2,wpAny_Call_Name_kw→Ê6,codeAny_mono→Ë7,wpAny_Name→Ì7,builtinsNs→Ì8,Arguments→Í2,codeAny→Í3,wpAny_loadName_local→Í4,sliceBounds→Í5,wpAny_execs_nil→Î2,importedModules→Î3,wpAny_typeOf→Ï6,swapsWith→Ð2,wpAny_rule→Ð3,wpAny_pyIter_tuple→Ð4,IsZip→Ð9,wpAny_pyIter_list→Ñ8,intKind→Ñ9,wpAny_comprehension_free→Ò2,wpAny_attempt→Ò3,wpAny_execs_cons→Ó1,backTo→Ó9,IsRange→Ô0,wpAny_storeName_local→Õ0,wpAny_updateSeq_pair→Ö2,wpAny_newFunctionEnv→Ö3,assign→Ö5,IsPart→Ö6,getItem→Ö8,codeAmong→Ö9,wpAny_standAt→Ø9,wpAny_onRaise→Ù0,foldedForSure→Ù2,wpAny_call→Ù6,typeIs_int→Ù7,IsTupleKey→Ú2,wpAny_assign_Name→Ú8,storedH→Ú9,callerA→Û0,noFill_tuple_add→Ü1,checkBuiltinCall→Ü3,TriplesOk→Ü4,seqIndex_of→Ü8,letOwnedTupleGo→Ý1,wpAny_newFunctionEnv_cells→Ý6
open PySem.W renaming Frag→Á,kas_item→ô,kas_desc→Â3,kas_place→Ã2,codeHdIn→Ä0,kia_one→Å9,kas_rev→Ç2,kas_asc→Ç3,tabObj→Ç5,boot_heap→È6,excIn→Ë1,kitOne→Ì9,kas_descPart→Ï8,kas_sort→Ð6,nsIn→Ð7,keepIn→Ò4,kia_tup→Õ2,kas_count→Ü2
open Bool renaming and_eq_true→Â,false_ne_true→Ð,not_eq_true'→î,eq_iff_iff→þ,or_eq_true→À6,true_and→È5,false_eq_true→É1,false_and→Ê5,and_true→Ë8,and_false→Î1
open PySem.Heap renaming get?_push_of_some→Ä,get?_push_size→Ï,lt_size→á,size_push→É8,SameBut→Ø3,IsTuple→Ø4,get?_update_other→Ý4,get?_update_self→Þ2
open List renaming length_map→Ç,mem_cons_self→É,mem_cons_of_mem→Ê,mem_map→Î,length_cons→Ô,size_toArray→Õ,getD_eq_getElem?_getD→Ö,getElem?_eq_getElem→Ù,range→Ú,getElem?_eq_some_iff→Û,mem_range→Ý,getElem?_map→à,all_eq_true→â,mem_append_right→ã,mem_filter→å,mem_cons→è,getElem?_set_ne→ê,mem_of_getElem?→ì,mem_singleton→í,replicate→ï,getElem?_set_self→ñ,length_append→õ,length_range→ø,lookup_cons→À1,getElem_mem→À2,mem_append→À5,filterMap_cons→À7,mem_singleton→À8,length_filter_le→À9,map_append→Á5,map_map→Á7,append_nil→Á9,all_eq_true→Â0,range'→Ã3,mem_append_left→Ã7,length_set→Ã8,length_nil→Ã9,range'_succ→Ä4,length_take→Ä5,getElem?_append_right→Ä9,all_cons→Å2,mem_iff_getElem→Å5,replicate_succ→Å7,map_congr_left→Å8,pairwise_cons→Æ0,not_mem_nil→Æ4,filter_cons→Æ5,append_assoc→Æ7,countP_eq_length_filter→Æ9,map_cons→Ç0,zip_cons_cons→È7,mem_cons→È8,filter_append→É0,range_eq_range'→É3,getElem?_cons_zero→É4,foldl_cons→É6,filter_map→É7,length_drop→É9,take_of_length_le→Ê3,flatten_cons→Ê9,isEmpty_iff→Ë6,forIn_cons→Ì1,filter_nil→Ì2,contains_iff_mem→Ì3,lookup→Ì4,perm_ext_iff_of_nodup→Í9,length_eraseIdx_of_lt→Î0,nil_append→Ï0,mem_of_find?_eq_some→Ï2,getElem?_append_left→Ï3,pairwise_singleton→Ñ2,getElem?_replicate→Ñ3,pairwise_lt_range→Ò0,nodup_cons→Ò6,reverse_cons→Ò7,filter_congr→Ò8,contains_iff_mem→Ò9,mem_of_mem_drop→Ó3,length→Ó4,getElem?_append→Ó5,contains_eq_mem→Ó6,map_id→Ô3,getElem?_range→Ô8,mapM_cons→Õ1,forIn_nil→Õ3,Pairwise→Õ5,mem_filterMap→Õ8,getElem?_take→Õ9,getElem?_drop→Ö0,zip_nil_left→Ø0,pairwise_map→Ø1,nodup_range→Ù4,find?_some→Ú6,drop_eq_getElem_cons→Ü6,length_pos_of_mem→Ý3,length_singleton→Ý8,length_replicate→Ý9,eraseIdx_sublist→Þ0,countP_mono_left→Þ1
open Option renaming map_eq_some_iff→È,bind_eq_some_iff→Í,map→Ë2,ne_none_iff_exists'→Ú5,isSome_iff_exists→Û9
open Nat renaming le_refl→Ì,le_trans→Ò,lt_of_lt_of_le→Ø,ne_of_lt→ä,lt_irrefl→Â4,lt_of_le_of_lt→Ã0,zero_le→Æ6,pow_le_pow_right→È2,le_add_right→Ê8,eq_of_beq_eq_true→Ë5,lt_succ_of_lt→Ì5,le_of_lt→Í6,ne_of_gt→Ï1,not_lt_zero→Ô2,blt→Ô7,mul_comm→Ø5,le_of_eq→Ø6,succ_le_succ→Ú0,lt_succ_self→Ú1,strongRecOn→Û4,le_mul_of_pos_left→Ý7
open ForInStep renaming yield→Þ,done→ç
open PySem.Value renaming none→é,ref→Á3,type→Ã5,bool→Ç7,builtin→Ï9,notImplemented→Ó2
open PySem.NameKind renaming free→ó,cell→Å3
open PySem.Challenge renaming pw_tiechances_k52_the_trees_paper→ö
open Array renaming getElem?_toList→ü,extract→Å6,getElem?_eq_getElem→È0,length_toList→È9,getD_eq_getD_getElem?→Í1,toArray_toList→Î9,map_extract→Ð5,size→Õ7,map_append→Ø8
open False renaming elim→ý
open PySem.Obj renaming mapSeq→À4
open Ne renaming symm→Á0
open Option.some renaming inj→Á2,injEq→È4
open PyProof.Rows renaming callWith_type1→Á4,SortSt→Á8,slot_tuple_getitem→Â1,seqObj→Â9,SortKind→Ê0,IntsAre→Ê4,envOfC→Î4,IsTup→Ï4,listItems_at→Ï7,AllBare→Ò1,oneType'→Ö4,pendingOf→Ö7,listUpdate_at→Ù1,assignInOrder_cons→Ù8,get?_update_seq→Ý2
open PySem.Str renaming ofString→Á6
open PySem.Builtin.Range renaming rangeSize→Â6,small→Ñ0
open PySem.AutoSeq1 renaming wpAny_loadPart'→Â7,wpAny_loadPart'→Ã6,idx_int→Ö1,sub_tuple_tuple→Ú7
open Int renaming toNat_natCast→Ã1,eq_of_mul_eq_mul_right→Î8,eq_ofNat_of_zero_le→Ñ7
open PyProof.Rows.KeyOrd renaming kle_refl→Æ1,kle_of_klt→Î7,kle_trans→Ø2
open PySem.F renaming slot_tuple_iterator_next→È1,args_tuple_add_2→Î5,plainAttrs_list→Ð0,entry_tuple_add→Ð1,slot_tuple_add→Ð8,slot_tuple_lt→Ñ5,called_tuple→Ò5,slot_zip_next→Ó7,slot_int_rmul→Ó8,args_tuple_mul_2→Ø7,excBase_ValueError→Ù9,entry_tuple_mul→Ú3,type_list_append→Û2,slot_list_append→Û3,slot_tuple_mul→Û5,plain_tuple_new→Û6,plain_list_iadd→Û7,args_tuple_lt_2→Û8,entry_tuple_lt→Ü5,args_tuple_iterator_next_1→Ü7,entry_tuple_iterator_next→Ü9
open True renaming intro→É2
open List.Pairwise renaming filter→É5
open PySem.Heap.SameBut renaming update→Ê7
open PyProof.Rows.SortSt renaming mk'→Ë0
open PySem.Builtin.List renaming listExtendWith→Ë3,listTooLong→Ì6
open Array.Perm renaming refl→Ë4
open PySem.Builtin.Tuple renaming tupleExact→Ë9
open PySem.Builtin.SmallTypes renaming ownedTupleIsFree→Ì0
open PySem.W.Looks renaming ld→Í0,of_pure→Ù3,here→Û1
open List.Perm renaming eq_of_pairwise→Í7
open PySem.Calls renaming Name_function_global→Í8,spliced_nil→Ï5,spliced_cons→Õ6,loadGlobal_global→Ý0,evalArgs_plain→Þ3
open Prod.mk renaming injEq→Î6
open Or renaming inl→Ñ1,inr→Ô6
open PySem.W.KasT renaming ret→Ñ4
open PySem.PyData renaming depthAll→Ñ6,eqv→Ú4
open PySem.Around renaming under_plainId→Ó0,frames_deeper→Ý5
open PySem.Builtin.Slice renaming slicePlaces→Ô1
open Sum renaming inr→Ô4,inl→Ô5
open Iff renaming rfl→Ô9
open PySem.SeqAt renaming EqAt→Õ4
open Classical renaming byContradiction→Ù5
open PySem.Builtin.Int renaming intBits→Ü0
local macro_rules
|`(command|def $i:declId $s:optDeclSig $v)=>`(noncomputable def $i:declId $s:optDeclSig $v)
|`(command|abbrev $i:declId $s:optDeclSig $v)=>`(noncomputable abbrev $i:declId $s:optDeclSig $v)
open PySem.W (methodObj hideAll hideAll_get of_hideAll callWith_K cellsFrom_some fnOf codeRec_of kitx_none kitx_bool kitx_int kitx_str kitx_tuple kitx_list kitx_dict kitAny kia_tup envX kla_fn codeHd_of_K kla_obj mg_none_of mg_of view)
open PySem.Heap (lt_size size_push)
open List (range filterMap_cons mem_cons_self mem_cons_of_mem mem_append_left getElem_inj mem_append_right append_nil of_mem_zip replicate length_take mem_of_getElem? length_append length_map size_toArray length_drop map_nil map_cons length_set reverse_cons replicate_succ flatten_cons foldl append_assoc foldl_cons lookup_cons forIn_cons toArray forIn_nil mem_cons not_mem_nil range' length_nil nil_append length_range zip_cons_cons length_cons all_eq_true map_map map_congr_left mem_append mem_singleton map_id all_nil mapM_cons getElem_mem all_map all_cons range_eq_range' drop_length contains_iff_mem filter_cons mem_filter filter_map filter_congr nodup_nil length_filter_le filter_nil filter_append)
open Array (length_toList toList getD size_map map_extract push extract setIfInBounds toArray_toList)
open Nat (ne_of_gt le_succ zero_le le_add_right not_lt_zero ble beq lt_succ_of_lt ble_eq pow_le_pow_right pow_succ zero_add land beq_eq)
open PyProof.Rows (lt_int)
open Int (toNat_natCast gcd emod_nonneg natAbs_mul mul_pos)
open PySem.Builtin.Slice (sliceAdjust slicePlaces sliceApplied)
open PySem.Builtin.Tuple (tupleItemsOf tupleExact tupleCompareSizes tupleTooMany tupleIsExact)
open Bool (and_eq_true false_eq_true not_eq_true' or_eq_true)
open Option (getD_none map_some)
open PySem.Builtin.SmallTypes (nextOf ownedTupleIsFree ownedTupleHandOut)
set_option bootstrap.genMatcherCode false
set_option compiler.extract_closed false
set_option genInjectivity false
set_option genSizeOf false
set_option autoImplicit true
set_option relaxedAutoImplicit true
set_option Elab.async false
set_option linter.all false
set_option maxRecDepth 100000
namespace L2
open PySem PySem.Spec PyProof.Rows
abbrev Key:=Sum Int Str
def a52:Key->Ã->Bool
 |.inl k,v=>Ã.isInt k v|.inr x,v=>Ã.isStrOf x v
def F52(w:ò):Key->Int
 |.inl k=>hashInt k|.inr x=>hashStr w x
theorem c80:∀ {k:Key}{v:Ã},a52 k v=true->(∃ i t,k=Ô5 i/\v=Ã.int i t)∨(∃ x t,k=Ô4 x/\v=Ã.str x t)
 |.inl i,v,h=>by
  obtain⟨t,e⟩:=Ã.isInt_shape (k:=i) (v:=v) h;exact .inl ⟨i,t,rfl,e⟩
 |.inr x,v,h=>by
  obtain⟨t,e⟩:=Ã.isStrOf_shape (x:=x) (v:=v) h;exact .inr ⟨x,t,rfl,e⟩
theorem a62(a b:Int):decide ((Ô5 a:Key)=Ô5 b)=(a == b):=by
 by_cases e:a=b
 ·subst e;simp
 ·have h:¬ (Ô5 a:Key)=Ô5 b:=λq=>e (Ô5.inj q);rw[decide_eq_false h];exact(beq_eq_false_iff_ne.mpr e).symm
theorem a72(a b:Str):decide ((Ô4 a:Key)=Ô4 b)=decide (a=b):=by
 by_cases e:a=b
 ·subst e;simp
 ·have h:¬ (Ô4 a:Key)=Ô4 b:=λq=>e (Ô4.inj q);rw[decide_eq_false h,decide_eq_false e]
theorem a82(a:Int)(b:Str):decide ((Ô5 a:Key)=Ô4 b)=false:=decide_eq_false (λq=>nomatch q)
theorem a92(a:Str)(b:Int):decide ((Ô4 a:Key)=Ô5 b)=false:=decide_eq_false (λq=>nomatch q)
def j61(prog:ß)(w:ò):PySem.KeyKind prog w Key where
 is:=a52
 hash:=F52 w
 inj:=λv a b ha hb=>by
  rcases c80 ha with ⟨i,t,rfl,rfl⟩ | ⟨x,t,rfl,rfl⟩
  ·rcases c80 hb with ⟨j,u,rfl,e⟩ | ⟨y,u,rfl,e⟩
   ·injection e with e1 _;rw[e1]
   ·exact nomatch e
  ·rcases c80 hb with ⟨j,u,rfl,e⟩ | ⟨y,u,rfl,e⟩
   ·exact nomatch e
   ·injection e with e1 _;rw[e1]
 byValue:=λk v h=>by
  rcases c80 h with ⟨i,t,rfl,rfl⟩ | ⟨x,t,rfl,rfl⟩ <;> rfl
 pyHash:=λhv h=>by
  rcases c80 hv with ⟨i,t,rfl,rfl⟩ | ⟨x,t,rfl,rfl⟩
  ·exact wpAny_pyHash_int h
  ·exact wpAny_pyHash_str h
 eqBool:=λhu hv h=>by
  rcases c80 hu with ⟨i,t,rfl,rfl⟩ | ⟨x,t,rfl,rfl⟩
  ·rcases c80 hv with ⟨j,u,rfl,rfl⟩ | ⟨y,u,rfl,rfl⟩
   ·rw[a62] at h;exact wpAny_eqBool_int h
   ·rw[a82] at h;exact Õ4.int_str i t y u _ _ _ _ h
  ·rcases c80 hv with ⟨j,u,rfl,rfl⟩ | ⟨y,u,rfl,rfl⟩
   ·rw[a92] at h;exact Õ4.str_int x t j u _ _ _ _ h
   ·rw[a72] at h;exact wpAny_eqBool_str h
 «strs»:=λk x t v h=>by
  rcases c80 h with ⟨i,u,rfl,e⟩ | ⟨y,u,rfl,e⟩
  ·exact nomatch e
  ·injection e with e1 _;subst e1;cases v <;> rfl
inductive V where
 |non | bl (b:Bool) | int (i:Int) | str (x:Str) | byt (b:Array UInt8) | flt (b:UInt64) | ref (a:Addr) | ty (n:String)
 deriving DecidableEq
def RelV:V->Ã->Prop
 |.non,u=>u=é|.bl b,u=>u=Ç7 b|.int i,u=>∃ t,u=Ã.int i t|.str x,u=>∃ t,u=Ã.str x t|.byt b,u=>∃ t,u=Ã.bytes b t|.flt b,u=>∃ t,u=Ã.float b t|.ref a,u=>u=Á3 a|.ty n,u=>u=Ã5 n
abbrev Vals:List V->List Ã->Prop:=Ä3 RelV
theorem Vals.length{xs:List V}{us:List Ã}(r:Vals xs us):xs.length=us.length:=Ä3.length r
theorem Vals.get:∀ {xs:List V}{us:List Ã}{i:Nat}{x:V},Vals xs us->xs[i]?=some x->∃ u,us[i]?=some u/\RelV x u
 |_,_,_,_,.nil,e=>by simp at e|_,_,0,_,.cons r _,e=>by simp at e;subst e;exact⟨_,rfl,r⟩
 |_,_,i + 1,x,.cons _ t,e=>by
  obtain⟨u,h1,h2⟩:=Vals.get (i:=i) (x:=x) t (by simpa using e)
  exact⟨u,by simpa using h1,h2⟩
theorem Vals.set{x:V}{u:Ã}(r:RelV x u):∀ {xs:List V}{us:List Ã} (i:Nat),Vals xs us->Vals (xs.set i x) (us.set i u)
 |_,_,_,.nil=>.nil|_,_,0,.cons _ t=>.cons r t|_,_,i + 1,.cons q t=>.cons q (Vals.set r i t)
theorem Vals.append:∀ {xs ys:List V}{us ws:List Ã},Vals xs us->Vals ys ws->Vals (xs++ys) (us++ws)
 |_,_,_,_,.nil,s=>s|_,_,_,_,.cons r t,s=>.cons r (Vals.append t s)
theorem Vals.take:∀ {xs:List V}{us:List Ã} (n:Nat),Vals xs us->Vals (xs.take n) (us.take n)
 |_,_,0,_=>.nil|_,_,_ + 1,.nil=>.nil|_,_,n + 1,.cons r t=>.cons r (Vals.take n t)
theorem Vals.drop:∀ {xs:List V}{us:List Ã} (n:Nat),Vals xs us->Vals (xs.drop n) (us.drop n)
 |_,_,0,r=>r|_,_,_ + 1,.nil=>.nil|_,_,n + 1,.cons _ t=>Vals.drop n t
def C32:Option V->Option Ã->Prop
 |some v,some u=>RelV v u|none,none=>True|_,_=>False
def KV{κ:Type}:List (κ × V)->List (κ × Ã)->Prop:=Ä3 λ(p:κ × V) (q:κ × Ã)=>p.1=q.1/\RelV p.2 q.2
def kV:Key->V
 |.inl i=>.int i|.inr x=>.str x
inductive HO where
 |lst (xs:List V)
 |tup (xs:List V)
 |dK (kvs:List (Key × V)) | dT (kvs:List (List Key × V))
 |set (S:Int->Bool) (n:Nat)
 |ins (C dx:Addr) (fs:List (Str × V))
 |own (x:Addr)
 |xd (fs:List (Str × V))
 |met (f x:Addr)
 |rng (lo hi:Int)
 |frz (o:Obj) (u:HO)
 |tbl (ps:Array Value)
 |ext (φ:Heap->Prop)
abbrev Hp:=Æ->Option HO
def upd(H:Hp)(a:Æ)(o:HO):Hp:=λb=>if b=a then some o else H b
theorem b20{H:Hp}{a:Æ}{o:HO}:upd H a o a=some o:=by unfold upd;rw[if_pos rfl]
theorem a40{H:Hp}{a b:Æ}{o:HO}(h:b≠a):upd H a o b=H b:=by unfold upd;rw[if_neg h]
theorem a70{H:Hp}{a b:Æ}{o:HO}(h:H a=some o)(h':H b=none):a≠b:=by
 intro e;subst e;rw[h] at h';cases h'
section
variable (P:ß) (w:ò)
def h00(H:Hp)(h:ë)(a:Æ):HO->Prop
 |.lst xs=>xs.length<=sizeLine/\∃ (its:List Ã) (n:Nat),Vals xs its/\h.get? a=some { cls:=.type "list",data:=.seq its.toArray n }|.tup xs=>xs.length<=sizeLine/\∃ its:List Ã,Vals xs its/\Ï4 h a its.toArray|.dK kvs=>kvs.length<=sizeLine/\(a == sysModules)=false/\∃ vs,KV kvs vs/\h.DictOf (j61 P w) a vs
 |.dT kvs=>kvs.length<=sizeLine/\(a == sysModules)=false/\∃ xs:List (List Key × Æ × Ã),
   Ä3 (λ(p:List Key × V) (q:List Key × Æ × Ã)=>p.1=q.1/\H q.2.1=some (.tup (p.1.map kV))/\RelV p.2 q.2.2) kvs xs /\
   ∃ o es ep,h.get? a=some o/\o.ExactDict/\o.data=.dict es ep/\es.toList=xs.map (entryOfKey (tupleKind (j61 P w)))/\(xs.map (·.1)).Nodup
 |.set S n=>h.SetOf (Ñ9 P w) a S n
 |.ins C dx fs=>H dx=some (.own a)/\fs.length<=1000/\dx≠a/\h.get? a=some (PySem.W.instObj C dx) /\
   ∃ mA,h.Ns1 dx mA/\(∀ f,C32 (fs.lookup f) (mA f))/\PySem.Within mA (fs.map (·.1))
 |.own _=>∃ o,h.get? a=some o|.xd fs=>∃ mA,h.Ns1 a mA/\∀ f,C32 (fs.lookup f) (mA f)|.rng lo hi=>∃ t u v,h.get? a=some { cls:=.type "range",data:=.fields #[.int lo t,.int hi u,.int 1 v] }|.frz o u=>h.get? a=some o/\h00 H h a u|.tbl ps=>h.get? a=some { cls:=.none,data:=.fields ps }|.met f x=>h.get? a=some (methodObj (.ref f) (.ref x))|.ext φ=>φ h/\(∃ o,h.get? a=some o)/\∀ h1 h2:ë,φ h1->(∀ o,h1.get? a=some o->h2.get? a=some o)->φ h2
def HOk(H:Hp)(h:ë):Prop:=∀ a o,H a=some o->h00 P w H h a o
end
section
variable {P:ß}{w:ò}{H H':Hp}{h h':ë}{a:Æ}{o:HO}
theorem h00.lt(x:h00 P w H h a o):a < h.objs.size:=by
 cases o with
 |lst xs=>obtain⟨_,_,_,_,e⟩:=x;exact á e
 |tup xs=>obtain⟨_,_,_,p⟩:=x;exact p.lt
 |dK kvs=>obtain⟨_,_,_,_,o,_,_,e,_⟩:=x;exact á e
 |dT kvs=>obtain⟨_,_,_,_,o,_,_,e,_⟩:=x;exact á e
 |set S n=>obtain⟨o,_,_,_,e,_⟩:=x;exact á e
 |ins C dx fs=>obtain⟨_,_,_,e,_⟩:=x;exact á e
 |own y=>obtain⟨_,e⟩:=x;exact á e
 |xd fs=>obtain⟨_,⟨_,_,_,e,_⟩,_⟩:=x;exact á e
 |rng lo hi=>obtain⟨_,_,_,e⟩:=x;exact á e
 |frz ob u=>obtain⟨e,_⟩:=x;exact á e
 |tbl ps=>exact á (show h.get? a=some _ from x)|met f y=>exact á (show h.get? a=some _ from x)|ext φ=>obtain⟨_,⟨_,e⟩,_⟩:=x;exact á e
theorem Ä3.Z21{α β:Type}{F G:α->β->Prop}:∀ {l₁:List α}{l₂:List β},Ä3 F l₁ l₂->(∀ a b,F a b->G a b)->Ä3 G l₁ l₂
 |_,_,.nil,_=>.nil|_,_,.cons r t,f=>.cons (f _ _ r) (Ä3.Z21 t f)
theorem h00.f01(x:h00 P w H h a o)(k:∀ b u,(b=a∨H b=some (.own a))->h.get? b=some u->h'.get? b=some u)
  (ho:∀ b,H b=some (.own a)->H' b=some (.own a)) (ht:∀ b xs,H b=some (.tup xs)->H' b=some (.tup xs)):h00 P w H' h' a o:=by
 induction o with
 |lst xs=>obtain⟨z,its,n,r,e⟩:=x;exact⟨z,its,n,r,k _ _ (.inl rfl) e⟩
 |tup xs=>obtain⟨z,its,r,ob,e,c⟩:=x;exact⟨z,its,r,ob,k _ _ (.inl rfl) e,c⟩
 |dK kvs=>obtain⟨z,y,vs,r,ob,es,ep,e,c⟩:=x;exact⟨z,y,vs,r,ob,es,ep,k _ _ (.inl rfl) e,c⟩
 |dT kvs =>
  obtain⟨z,y,xs,r,ob,es,ep,e,c⟩:=x;exact⟨z,y,xs,Ä3.Z21 r λp q z=>⟨z.1,ht _ _ z.2.1,z.2.2⟩,ob,es,ep,k _ _ (.inl rfl) e,c⟩
 |set S n=>obtain⟨ob,es,ep,t,e,c⟩:=x;exact⟨ob,es,ep,t,k _ _ (.inl rfl) e,c⟩
 |ins C dx fs =>
  obtain⟨d,z,ne,e,mA,⟨od,es,ep,e2,c⟩,r⟩:=x;exact⟨ho _ d,z,ne,k _ _ (.inl rfl) e,mA,⟨od,es,ep,k _ _ (.inr d) e2,c⟩,r⟩
 |own y=>obtain⟨ob,e⟩:=x;exact⟨ob,k _ _ (.inl rfl) e⟩
 |xd fs=>obtain⟨mA,⟨od,es,ep,e,c⟩,r⟩:=x;exact⟨mA,⟨od,es,ep,k _ _ (.inl rfl) e,c⟩,r⟩
 |rng lo hi=>obtain⟨t,u,v,e⟩:=x;exact⟨t,u,v,k _ _ (.inl rfl) e⟩
 |frz ob u ih=>obtain⟨e,q⟩:=x;exact⟨k _ _ (.inl rfl) e,ih q⟩
 |tbl ps =>
  have e:h.get? a=some { cls:=.none,data:=.fields ps }:=x;show h'.get? a=some { cls:=.none,data:=.fields ps };exact k a _ (.inl rfl) e
 |met f y =>
  have e:h.get? a=some (methodObj (.ref f) (.ref y)):=x;show h'.get? a=some (methodObj (.ref f) (.ref y));exact k a _ (.inl rfl) e
 |ext φ=>obtain⟨p,⟨o,e⟩,st⟩:=x;exact⟨st _ _ p λo q=>k _ _ (.inl rfl) q,⟨o,k _ _ (.inl rfl) e⟩,st⟩
theorem HOk.lt(x:HOk P w H h)(e:H a=some o):a < h.objs.size:=(x a o e).lt
theorem HOk.fresh(x:HOk P w H h)(e:h.objs.size<=a):H a=none:=by
 cases q:H a with
 |none=>rfl|some u=>exact absurd (Ø (x.lt q) e) (Â4 _)
theorem HOk.kept(x:HOk P w H h)(k:∀ b u,h.get? b=some u->h'.get? b=some u):HOk P w H h':=λa o e =>
 (x a o e).f01 (λb u _ q=>k b u q) (λ_ q=>q) λ_ _ q=>q
theorem HOk.laid(x:HOk P w H h)(k:∀ b u,h.get? b=some u->h'.get? b=some u)(hp:h.objs.size<=a)(new:h00 P w (upd H a o) h' a o):HOk P w (upd H a o) h':=λb u e=>by
 have hn:=x.fresh hp;by_cases hb:b=a
 ·subst hb;rw[b20] at e;cases e;exact new
 ·rw[a40 hb] at e;exact(x b u e).f01 (λc v _ q=>k c v q) (λc q=>by rw[a40 (a70 q hn)];exact q) λc xs q=>by rw[a40 (a70 q hn)];exact q
end
def Rd(H:Hp)(a:Æ)(u:HO):Prop:=H a=some u∨∃ o,H a=some (.frz o u)
theorem Rd.ok{P:ß}{w:ò}{H:Hp}{h:ë}{a:Æ}{u:HO}(r:Rd H a u)(x:HOk P w H h):h00 P w H h a u:=by
 rcases r with r | ⟨o,r⟩
 ·exact x a u r
 ·obtain⟨_,q⟩:=x a _ r;exact q
def Mut:Option HO->Prop
 |some (.lst _)=>True|some (.dK _)=>True|some (.dT _)=>True|some (.set _ _)=>True|some (.ins _ _ _)=>True|some (.ext _)=>True|_=>False
section
variable {P:ß}{w:ò}{H:Hp}{h h':ë}{x e:Æ}{o':HO}
theorem HOk.write(ok:HOk P w H h)(mu:Mut (H x))(he:e=x∨H e=some (.own x))(k:∀ b u,b≠e->h.get? b=some u->h'.get? b=some u)(heo:∃ u,h'.get? e=some u)
  (new:h00 P w (upd H x o') h' x o'):HOk P w (upd H x o') h':=λb u q=>by
 have nown:∀ c y,H c=some (.own y)->c≠x:=λc y r z=>by subst z;rw[r] at mu;exact mu
 have ntup:∀ c xs,H c=some (.tup xs)->c≠x:=λc xs r z=>by subst z;rw[r] at mu;exact mu
 by_cases hb:b=x
 ·subst hb;rw[b20] at q;cases q;exact new
 ·rw[a40 hb] at q;by_cases hbe:b=e
  ·have q':H b=some (.own x):=by
    rcases he with z | z
    ·exact absurd (hbe.trans z) hb
    ·rw[hbe];exact z
   rw[q] at q';cases q';obtain⟨v,hv⟩:=heo;exact⟨v,by rw[hbe];exact hv⟩
  ·refine(ok b u q).f01 (λc v hc r=>k c v ?_ r) (λc r=>by rw[a40 (nown c b r)];exact r) λc xs r=>by rw[a40 (ntup c xs r)];exact r
   rcases hc with rfl | hc
   ·exact hbe
   ·rintro rfl;rcases he with z | z
    ·exact nown c b hc z
    ·rw[hc] at z;cases z;exact hb rfl
end
structure Un(fs ex:List Addr)(H H':Hp)(h h':Heap):Prop where
 keep:∀ b o,h.get? b=some o->H b=none->b ∉ fs->b ∉ ex->h'.get? b=some o
 slot:∀ b o,h.get? b=some o->H b=none->b∈fs->b ∉ ex->∃ sl,h'.get? b=some { o with slots:=sl }
 free:∀ b o,h.get? b=some o->H b=none->b ∉ ex->H' b=none
 there:∀ b o,h.get? b=some o->b ∉ ex->∃ o',h'.get? b=some o'
 tups:∀ b xs,H b=some (.tup xs)->H' b=some (.tup xs)
 frzs:∀ b o u,H b=some (.frz o u)->H' b=some (.frz o u)
 tbls:∀ b ps,H b=some (.tbl ps)->∃ more,H' b=some (.tbl (ps++more))
section
variable {fs fs' ex ex':List Æ}{H H1 H2:Hp}{h h1 h2 h':ë}{a x e:Æ}{o:HO}
theorem Un.any(u:Un fs ex H H1 h h1){b:Æ}{ob:Obj}(q:h.get? b=some ob)(n:H b=none)(hx:b ∉ ex):∃ sl,h1.get? b=some { ob with slots:=sl }:=by
 by_cases hb:b∈fs
 ·exact u.slot b ob q n hb hx
 ·exact⟨ob.slots,u.keep b ob q n hb hx⟩
theorem Un.trans(a:Un fs ex H H1 h h1)(b:Un fs ex H1 H2 h1 h2):Un fs ex H H2 h h2 where
 keep:=λc ob q n hc hx=>b.keep c ob (a.keep c ob q n hc hx) (a.free c ob q n hx) hc hx
 slot:=λc ob q n hc hx=>by
  obtain⟨sl,e1⟩:=a.slot c ob q n hc hx;obtain⟨sl',e2⟩:=b.slot c _ e1 (a.free c ob q n hx) hc hx;exact⟨sl',e2⟩
 free:=λc ob q n hx=>by
  obtain⟨o',e1⟩:=a.there c ob q hx;exact b.free c o' e1 (a.free c ob q n hx) hx
 there:=λc ob q hx=>by
  obtain⟨o',e1⟩:=a.there c ob q hx;exact b.there c o' e1 hx
 tups:=λc xs q=>b.tups c xs (a.tups c xs q)
 frzs:=λc ob xs q=>b.frzs c ob xs (a.frzs c ob xs q)
 tbls:=λc ps q=>by
  obtain⟨m1,e1⟩:=a.tbls c ps q;obtain⟨m2,e2⟩:=b.tbls c _ e1;exact⟨m1++m2,by rw[e2,Array.append_assoc]⟩
theorem Un.kept(k:∀ b u,h.get? b=some u->h'.get? b=some u):Un fs ex H H h h' :=
 ⟨λb ob q _ _ _=>k b ob q,λb ob q _ _ _=>⟨ob.slots,k b ob q⟩,λ_ _ _ n _=>n,λb ob q _=>⟨ob,k b ob q⟩,λ_ _ q=>q,λ_ _ _ q=>q,λ_ ps q=>⟨#[],by rw[q];simp⟩⟩
theorem Un.refl:Un fs ex H H h h:=Un.kept λ_ _ q=>q
theorem Un.laid(k:∀ b u,h.get? b=some u->h'.get? b=some u)(hp:h.objs.size<=a)(hn:H a=none):Un fs ex H (upd H a o) h h' where
 keep:=λb u q _ _ _=>k b u q
 slot:=λb u q _ _ _=>⟨u.slots,k b u q⟩
 free:=λb u q n _=>by rw[a40 (ä (Ø (á q) hp))];exact n
 there:=λb u q _=>⟨u,k b u q⟩
 tups:=λb xs q=>by rw[a40 (a70 q hn)];exact q
 frzs:=λb u xs q=>by rw[a40 (a70 q hn)];exact q
 tbls:=λb ps q=>⟨#[],by rw[a40 (a70 q hn),q];simp⟩
theorem Un.write(mu:Mut (H x))(he:e=x∨H e=some (.own x))(k:∀ b u,b≠e->h.get? b=some u->h'.get? b=some u)(heo:∃ u,h'.get? e=some u):Un fs ex H (upd H x o) h h':=by
 have hx:∀ b,H b=none->b≠x:=λb n z=>by subst z;rw[n] at mu;exact mu
 have hb:∀ b,H b=none->b≠e:=λb n z=>by
  subst z;rcases he with r | r
  ·exact hx b n r
  ·rw[n] at r;cases r
 have hm:∀ b u,H b=some u->¬ Mut (some u)->b≠x:=λb u q nm z=>by subst z;rw[q] at mu;exact nm mu
 refine⟨λb u q n _ _=>k b u (hb b n) q,λb u q n _ _=>⟨u.slots,k b u (hb b n) q⟩,λb u q n _=>by rw[a40 (hx b n)];exact n,λb u q _=>?_,
  λb xs q=>by rw[a40 (hm b _ q λz=>z)];exact q,λb u xs q=>by rw[a40 (hm b _ q λz=>z)];exact q,λb ps q=>⟨#[],by rw[a40 (hm b _ q λz=>z),q];simp⟩⟩
 by_cases hbe:b=e
 ·subst hbe;exact heo
 ·exact⟨u,k b u hbe q⟩
theorem Un.mono(u:Un fs ex H H1 h h1)(hs:∀ b∈fs,b∈fs')(hx:∀ b∈ex,b∈ex'):Un fs' ex' H H1 h h1 :=
 ⟨λb ob q n hb he=>u.keep b ob q n (λz=>hb (hs b z)) λz=>he (hx b z),λ_ _ q n _ he=>u.any q n λz=>he (hx _ z),λb ob q n he=>u.free b ob q n λz=>he (hx b z),λb ob q he=>u.there b ob q λz=>he (hx b z),u.tups,u.frzs,u.tbls⟩
end
def trk(h:ë)(H:Hp):List Addr:=(Ú h.objs.size).filter λa=>(H a).isSome
def z51(h:ë)(H:Hp):Heap:=hideAll h (trk h H)
theorem j71(h:ë)(H:Hp):(z51 h H).objs.size=h.objs.size:=PySem.W.hideAll_size _ _
theorem G10{h:ë}{H:Hp}{b:Æ}{o:Obj}(e:h.get? b=some o)(n:H b=none):(z51 h H).get? b=some o :=
 hideAll_get _ e λhm=>by
  have q:(H b).isSome=true:=(å.mp hm).2;rw[n] at q;simp at q
theorem M81{h:ë}{H:Hp}{b:Æ}{o:Obj}(e:(z51 h H).get? b=some o):h.get? b=some o/\H b=none:=by
 have e':h.get? b=some o:=of_hideAll (trk h H) e;refine⟨e',?_⟩;cases q:H b with
 |none=>rfl
 |some x =>
  have hm:b∈trk h H:=å.mpr ⟨Ý.mpr (á e'),by simp[q]⟩
  have z:(z51 h H).get? b=none:=PySem.W.hideAll_none (trk h H) hm;rw[z] at e;cases e
structure Mod(K:PySem.W.Frag)(mg:Str->Option Value)(base:Heap):Prop where
 kin:K.In base
 glob:base.Ns mainGlobals mg
 blt:∃ mb,base.Ns builtinsNs mb/\∀ x:Str,x≠"__name__"->mb x=bootBuiltins x
 nolimit:base.NoLimit
structure Cx where
 prog:Program
 w:World
 K:PySem.W.Frag
 mg:Str->Option Value
 base:Heap
 A:Around
 N:List Str
 s₀:Shared
 H₀:Hp
 env:Env
 outer:List Env
 stack:List Env
 ex:List Addr
 fn:Str->Bool
 calm:Bool
 pn:List (Addr × Obj)
 xe:Value->Shared->Prop
def frs(l:List Env):List Addr:=l.filterMap (·.frame)
abbrev Cx.fs(X:Cx):List Addr:=frs X.outer
def Vis(sc:ú)(x:Str):Prop:=sc.names.lookup x=some .local∨sc.names.lookup x=some .cell∨sc.names.lookup x=some .free
def Loc(sc:ú)(x:Str):Prop:=sc.names.lookup x=some .local∨sc.names.lookup x=some .cell
def Look(env:Env)(h:ë)(m:Str->Option Ã)(x:Str)(u:Ã):Prop :=
 (env.kindOf x=some .local/\m x=some u)∨((env.kindOf x=some .cell∨env.kindOf x=some .free)/\∃ c,env.cells.lookup x=some c/\h.IsCell c (some u))
structure Cx.Ok(X:Cx):Prop where
 mod:Mod X.K X.mg X.base
 kind:X.env.scope.kind=.function
 glob:X.env.globals=mainGlobals
 blt:X.env.builtins=builtinsNs
 above:X.s₀.heap.objs.size<=X.env.locals
 inj:∀ x y c,X.env.cells.lookup x=some c->X.env.cells.lookup y=some c->x=y
 has:∀ x,(X.env.kindOf x=some .cell∨X.env.kindOf x=some .free)->∃ c,X.env.cells.lookup x=some c
 cab:∀ x c,X.fn x=true->X.env.cells.lookup x=some c->X.s₀.heap.objs.size<=c
 hd:X.calm=true->X.A.handled=none
 frames:X.A.frames=some X.stack
 stk:X.stack=X.outer∨(X.stack=X.env::X.outer/\X.env.frame=some X.env.locals)
 exf:∀ b∈X.ex,b≠X.env.locals/\∀ x c,X.env.cells.lookup x=some c->c≠b
 bs:∀ b o,X.base.get? b=some o->X.s₀.heap.get? b=some o/\X.H₀ b=none
 bsz:X.base.objs.size<=X.s₀.heap.objs.size
 noex:∀ b o,X.base.get? b=some o->b ∉ X.ex
 exfs:∀ b∈X.ex,b ∉ X.fs
 f11:X.s₀.heap.FunFrames X.base X.outer
 frf:∀ b∈X.fs,X.H₀ b=none
structure Inv(X:Cx)(pins:List (Addr × Obj))(σ:List (Option V))(H:Hp)(s:Shared):Prop where
 ok:X.Ok
 os:s.os=X.s₀.os
 bare:AllBare s.gens
 base:Un X.fs X.ex X.H₀ H X.s₀.heap s.heap
 loc:∃ m,s.heap.Ns X.env.locals m/\∀ (i:Nat) (x:Str) (v:V),X.N[i]?=some x->σ[i]?=some (some v)->Vis X.env.scope x->∃ u,RelV v u/\Look X.env s.heap m x u
 cell:∀ x c,X.env.cells.lookup x=some c->∃ v,s.heap.IsCell c v
 free:H X.env.locals=none
 freeC:∀ x c,X.env.cells.lookup x=some c->H c=none
 pin:∀ p∈X.pn++pins,s.heap.get? p.1=some p.2/\H p.1=none/\p.1≠X.env.locals/\p.1 ∉ X.fs/\∀ v,p.2.data≠.cell v
 hok:HOk X.prog X.w H s.heap
 len:σ.length=X.N.length
section
variable {X:Cx}{pins:List (Æ × Obj)}{σ:List (Option V)}{H H':Hp}{s:Å}{h':ë}
theorem Cx.Ok.F62(ok:X.Ok){b:Æ}{o:Obj}(e:X.base.get? b=some o):b ∉ X.fs:=λhb=>by
 have:=(ok.f11.mem hb).1;rw[e] at this;cases this
theorem Inv.bs(I:Inv X pins σ H s):∀ b o,X.base.get? b=some o->s.heap.get? b=some o/\H b=none:=λb o e =>
 ⟨I.base.keep b o (I.ok.bs b o e).1 (I.ok.bs b o e).2 (I.ok.F62 e) (I.ok.noex b o e),I.base.free b o (I.ok.bs b o e).1 (I.ok.bs b o e).2 (I.ok.noex b o e)⟩
theorem Inv.bk(I:Inv X pins σ H s):∀ b o,X.base.get? b=some o->s.heap.get? b=some o:=λb o e=>(I.bs b o e).1
theorem Inv.mod(I:Inv X pins σ H s):Mod X.K X.mg X.base:=I.ok.mod
theorem Inv.kIn(I:Inv X pins σ H s):X.K.In s.heap:=I.ok.mod.kin.keeps I.bk
theorem Inv.lt(I:Inv X pins σ H s):X.env.locals < s.heap.objs.size:=let ⟨_,hn,_⟩:=I.loc;hn.lt
theorem Inv.sz(I:Inv X pins σ H s):X.s₀.heap.objs.size<=s.heap.objs.size:=Ò I.ok.above (Í6 I.lt)
theorem Inv.F72(I:Inv X pins σ H s){a:Æ}(h:s.heap.objs.size<=a):a ∉ X.fs:=λhb=>by
 obtain⟨_,o,ho,_⟩:=I.ok.f11.mem hb;exact absurd (Ø (á ho) (Ò I.sz h)) (Â4 _)
theorem Inv.cne(I:Inv X pins σ H s):∀ x c,X.env.cells.lookup x=some c->c≠X.env.locals:=λx c e z=>by
 obtain⟨v,o,ho,hd⟩:=I.cell x c e;obtain⟨m,⟨o',es,ep,ho',hd',_⟩,_⟩:=I.loc;rw[z,ho'] at ho;cases ho;rw[hd'] at hd;cases hd
theorem Inv.f11(I:Inv X pins σ H s):s.heap.FunFrames X.base X.outer:=by
 have all:∀ (l:List Env),(∀ b∈frs l,b∈X.fs)->X.s₀.heap.FunFrames X.base l->s.heap.FunFrames X.base l:=by
  intro l
  induction l with
  |nil=>intro _ _;trivial
  |cons env r ih =>
   intro hs hl;obtain⟨hk,⟨L,o,hf,hn,ho,hd⟩,hr⟩:=hl;have hL:L∈X.fs:=hs L (by unfold frs;rw[À7,hf];exact É)
   obtain⟨sl,e⟩:=I.base.slot L o ho (I.ok.frf L hL) hL λz=>I.ok.exfs L z hL;exact⟨hk,⟨L,_,hf,hn,e,hd⟩,ih (λb hb=>hs b (by unfold frs;rw[À7,hf];exact Ê _ hb)) hr⟩
 exact all X.outer (λ_ hb=>hb) I.ok.f11
theorem Inv.stack(I:Inv X pins σ H s):s.heap.FunFrames X.base X.stack:=by
 rcases I.ok.stk with e | ⟨e,hf⟩
 ·rw[e];exact I.f11
 ·rw[e];obtain⟨m,hn,_⟩:=I.loc;refine .cons (by rw[I.ok.kind];decide) hf hn ?_ I.f11
  exact ë.get?_none_of_le (Ò I.ok.bsz I.ok.above)
theorem Inv.j81(I:Inv X pins σ H s):∀ b∈frs X.stack,b∈X.env.locals::X.fs:=λb hb=>by
 rcases I.ok.stk with e | ⟨e,hf⟩
 ·rw[e] at hb;exact Ê _ hb
 ·rw[e] at hb;unfold frs at hb;rw[À7,hf] at hb;exact hb
theorem Inv.u50(I:Inv X pins σ H s):∀ b∈frs X.stack,H b=none:=λb hb=>by
 rcases è.mp (I.j81 b hb) with e | hb
 ·rw[e];exact I.free
 ·obtain⟨_,o,ho,_⟩:=I.ok.f11.mem hb;exact I.base.free b o ho (I.ok.frf b hb) λz=>I.ok.exfs b z hb
theorem Inv.step{g':Array GenState}{t':Nat}{d':Drawn}{ch:List Æ}(I:Inv X pins σ H s)
  (hch:∀ b∈ch,(b∈X.ex∨X.s₀.heap.objs.size<=b)/\b≠X.env.locals/\(∀ x c,X.env.cells.lookup x=some c->c≠b)/\∀ p∈X.pn++pins,p.1≠b)
  (keep:∀ b o,b≠X.env.locals->b ∉ X.fs->b ∉ ch->s.heap.get? b=some o->H b=none->h'.get? b=some o)
  (slot:∀ b o,b≠X.env.locals->b∈X.fs->b ∉ ch->s.heap.get? b=some o->H b=none->∃ sl,h'.get? b=some { o with slots:=sl }) (free:∀ b o,b ∉ ch->s.heap.get? b=some o->H b=none->H' b=none)
  (there:∀ b o,b ∉ ch->s.heap.get? b=some o->∃ o',h'.get? b=some o')
  (tups:∀ b xs,H b=some (.tup xs)->H' b=some (.tup xs)) (frzs:∀ b o u,H b=some (.frz o u)->H' b=some (.frz o u)) (tbls:∀ b ps,H b=some (.tbl ps)->∃ more,H' b=some (.tbl (ps++more)))
  (ns:∀ m,s.heap.Ns X.env.locals m->h'.Ns X.env.locals m) (hok:HOk X.prog X.w H' h') (hg:Ò1 g') :
  Inv X pins σ H' { s with heap:=h',gens:=g',drawn:=d',toks:=t' }:=by
 have neL:∀ b o,X.s₀.heap.get? b=some o->b≠X.env.locals:=λb o e=>ä (Ø (á e) I.ok.above);have neC:∀ b o,X.s₀.heap.get? b=some o->b ∉ X.ex->b ∉ ch:=λb o e hx hb=>by
  rcases (hch b hb).1 with z | z
  ·exact hx z
  ·exact absurd (Ø (á e) z) (Â4 _)
 have cellK:∀ x c,X.env.cells.lookup x=some c->∀ v,s.heap.IsCell c v->h'.IsCell c v:=λx c e v ⟨o,ho,hd⟩=>by
  have nch:c ∉ ch:=λz=>(hch c z).2.2.1 x c e rfl;by_cases hc:c∈X.fs
  ·obtain⟨sl,q⟩:=slot c o (I.cne x c e) hc nch ho (I.freeC x c e);exact⟨_,q,hd⟩
  ·exact⟨o,keep c o (I.cne x c e) hc nch ho (I.freeC x c e),hd⟩
 refine⟨I.ok,I.os,hg,⟨λb o e n hb hx=>?_,λb o e n hb hx=>?_,λb o e n hx=>?_,λb o e hx=>?_,λb xs e=>tups b xs (I.base.tups b xs e),λb o xs e=>frzs b o xs (I.base.frzs b o xs e),λb ps e=>?_⟩,?_,λx c e=>?_,?_,λx c e=>?_,λp hp=>?_,hok,I.len⟩
 ·exact keep b o (neL b o e) hb (neC b o e hx) (I.base.keep b o e n hb hx) (I.base.free b o e n hx)
 ·obtain⟨sl,e1⟩:=I.base.slot b o e n hb hx;obtain⟨sl',e2⟩:=slot b _ (neL b o e) hb (neC b o e hx) e1 (I.base.free b o e n hx);exact⟨sl',e2⟩
 ·obtain⟨o',e1⟩:=I.base.there b o e hx;exact free b o' (neC b o e hx) e1 (I.base.free b o e n hx)
 ·obtain⟨o',e1⟩:=I.base.there b o e hx;exact there b o' (neC b o e hx) e1
 ·obtain⟨m1,e1⟩:=I.base.tbls b ps e;obtain⟨m2,e2⟩:=tbls b _ e1;exact⟨m1++m2,by rw[e2,Array.append_assoc]⟩
 ·obtain⟨m,hn,hl⟩:=I.loc;refine⟨m,ns m hn,λi x v e1 e2 e3=>?_⟩;obtain⟨u,r,l⟩:=hl i x v e1 e2 e3;refine⟨u,r,?_⟩;rcases l with l | ⟨k,c,e,z⟩
  ·exact .inl l
  ·exact .inr ⟨k,c,e,cellK x c e _ z⟩
 ·obtain⟨v,z⟩:=I.cell x c e;exact⟨v,cellK x c e v z⟩
 ·obtain⟨m,⟨o,_,_,ho,_⟩,_⟩:=I.loc;exact free _ o (λz=>(hch _ z).2.1 rfl) ho I.free
 ·obtain⟨v,o,ho,hd⟩:=I.cell x c e;exact free c o (λz=>(hch c z).2.2.1 x c e rfl) ho (I.freeC x c e)
 ·obtain⟨e,n,ne,nf,d⟩:=I.pin p hp;have nch:p.1 ∉ ch:=λz=>(hch p.1 z).2.2.2 p hp rfl;exact⟨keep p.1 p.2 ne nf nch e n,free p.1 p.2 nch e n,ne,nf,d⟩
theorem Inv.un{t':Nat}(I:Inv X pins σ H s)(u:Un X.fs [] H H' s.heap h')(hok:HOk X.prog X.w H' h'):Inv X pins σ H' { s with heap:=h',toks:=t' }:=by
 obtain⟨m,⟨o,es,ep,ho,r⟩,_⟩:=id I.loc;obtain⟨sl,hL⟩:=u.any ho I.free (by simp)
 exact I.step (g':=s.gens) (d':=s.drawn) (ch:=[]) (λ_ z=>nomatch z) (λb o _ hb _ e n=>u.keep b o e n hb (by simp)) (λb o _ hb _ e n=>u.slot b o e n hb (by simp)) (λb o _ e n=>u.free b o e n (by simp)) (λb o _ e=>u.there b o e (by simp)) u.tups u.frzs u.tbls (λm' hm=>by
  obtain⟨o',es',ep',ho',r'⟩:=hm;rw[ho] at ho';cases ho';exact⟨_,es',ep',hL,r'⟩) hok I.bare
theorem Inv.call{g':Array GenState}{t':Nat}{d':Drawn}{ch:List Æ}(I:Inv X pins σ H s)(u:Un (frs X.stack) ch H H' s.heap h')(hok:HOk X.prog X.w H' h')(hg:Ò1 g')
  (hch:∀ b∈ch,(b∈X.ex∨X.s₀.heap.objs.size<=b)/\b≠X.env.locals/\(∀ x c,X.env.cells.lookup x=some c->c≠b)/\∀ p∈X.pn++pins,p.1≠b) :
  Inv X pins σ H' { s with heap:=h',gens:=g',drawn:=d',toks:=t' }:=by
 obtain⟨m,⟨o,es,ep,ho,r⟩,_⟩:=id I.loc;obtain⟨sl,hL⟩:=u.any ho I.free λz=>(hch _ z).2.1 rfl;exact I.step (ch:=ch) hch (λb o hL hb hc e n=>u.keep b o e n (λz=>(è.mp (I.j81 b z)).elim hL hb) hc) (λb o _ _ hc e n=>u.any e n hc) (λb o hc e n=>u.free b o e n hc) (λb o hc e=>u.there b o e hc) u.tups u.frzs u.tbls (λm' hm=>by
  obtain⟨o',es',ep',ho',r'⟩:=hm;rw[ho] at ho';cases ho';exact⟨_,es',ep',hL,r'⟩) hok hg
theorem Inv.turned{t':Nat}{it:Æ}(I:Inv X pins σ H s)(k:∀ b o,b≠it->s.heap.get? b=some o->h'.get? b=some o)(hn:H it=none)(hL:it≠X.env.locals)
  (h1:it∈X.ex∨X.s₀.heap.objs.size<=it) (h2:∀ x c,X.env.cells.lookup x=some c->c≠it) (h3:∀ p∈X.pn++pins,p.1≠it):Inv X pins σ H { s with heap:=h',toks:=t' }:=by
 have nit:∀ b u,H b=some u->b≠it:=λb u e z=>by rw[z,hn] at e;cases e
 refine I.step (g':=s.gens) (d':=s.drawn) (ch:=[it]) (λb hb=>?_) (λb o _ _ hc e _=>k b o (λz=>hc (by simp[z])) e) (λb o _ _ hc e _=>⟨o.slots,k b o (λz=>hc (by simp[z])) e⟩) (λ_ _ _ _ n=>n)
  (λb o hc e=>⟨o,k b o (λz=>hc (by simp[z])) e⟩) (λ_ _ e=>e) (λ_ _ _ e=>e) (λb ps e=>⟨#[],by rw[e];simp⟩) (λm hm=>?_) (λb u e=>?_) I.bare
 ·have e:b=it:=by simpa using hb
  subst e;exact⟨h1,hL,h2,h3⟩
 ·obtain⟨o,es,ep,ho,r⟩:=hm;exact⟨o,es,ep,k _ o (Á0 hL) ho,r⟩
 ·refine(I.hok b u e).f01 (λc v hc q=>k c v ?_ q) (λ_ q=>q) λ_ _ q=>q;rcases hc with z | z
  ·rw[z];exact nit b u e
  ·exact nit c _ z
theorem Inv.tok(I:Inv X pins σ H s)(t:Nat):Inv X pins σ H { s with toks:=t }:=I.un (h':=s.heap) (t':=t) Un.refl I.hok
theorem Inv.kept{t':Nat}(I:Inv X pins σ H s)(k:∀ b u,s.heap.get? b=some u->h'.get? b=some u):Inv X pins σ H { s with heap:=h',toks:=t' }:=I.un (Un.kept k) (I.hok.kept k)
theorem Inv.laid{a:Æ}{o:HO}{t':Nat}(I:Inv X pins σ H s)(k:∀ b u,s.heap.get? b=some u->h'.get? b=some u)(hp:s.heap.objs.size<=a)(new:h00 X.prog X.w (upd H a o) h' a o) :
  Inv X pins σ (upd H a o) { s with heap:=h',toks:=t' }:=I.un (Un.laid k hp (I.hok.fresh hp)) (I.hok.laid k hp new)
theorem Inv.write{x e:Æ}{o:HO}{t':Nat}(I:Inv X pins σ H s)(mu:Mut (H x))(he:e=x∨H e=some (.own x))(k:∀ b u,b≠e->s.heap.get? b=some u->h'.get? b=some u)(heo:∃ u,h'.get? e=some u)
  (new:h00 X.prog X.w (upd H x o) h' x o):Inv X pins σ (upd H x o) { s with heap:=h',toks:=t' }:=I.un (Un.write mu he k heo) (I.hok.write mu he k heo new)
theorem Inv.y90{pins':List (Æ × Obj)}(I:Inv X pins σ H s)(h:∀ p∈pins',s.heap.get? p.1=some p.2/\H p.1=none/\p.1≠X.env.locals/\p.1 ∉ X.fs/\∀ v,p.2.data≠.cell v):Inv X pins' σ H s :=
 ⟨I.ok,I.os,I.bare,I.base,I.loc,I.cell,I.free,I.freeC,λp hp=>(À5.mp hp).elim (λz=>I.pin p (Ã7 _ z)) (h p),I.hok,I.len⟩
theorem Y20{N:List Str}(hN:N.Nodup){i j:Nat}{x:Str}(a:N[i]?=some x)(b:N[j]?=some x):i=j:=by
 obtain⟨h1,e1⟩:=Û.mp a;obtain⟨h2,e2⟩:=Û.mp b;exact(getElem_inj hN).mp (e1.trans e2.symm)
theorem z00{M:Model}{A:ù}{E:Ã->Å->Prop}{i:Nat}{x:Str}{v:V}{u:Ã}{Q:Unit->Å->Prop}(I:Inv X pins σ H s)(hN:X.N.Nodup)(hi:X.N[i]?=some x)(hx:Loc X.env.scope x)(r:RelV v u)
  (h:∀ s',Inv X pins (σ.set i (some v)) H s'->(∃ a,Ø3 a s.heap s'.heap/\(a=X.env.locals∨X.env.cells.lookup x=some a))->Q () s') (hf:X.fn x=true∨X.env.scope.names.lookup x=some .local:=by first | exact .inl rfl | exact .inr rfl | assumption):Ó M A (storeName X.env x u) Q E s:=by
 obtain⟨m,hn,hl⟩:=id I.loc;have hcls:(X.env.scope.kind == .class || (X.env.scope.kind == .module&&X.env.locals != X.env.globals))=false:=by rw[I.ok.kind];rfl
 have hiσ:i < σ.length:=by rw[I.len];exact(Û.mp hi).1
 have cne:=I.cne;have tracked:∀ {a:Æ}{h':ë},(∃ o,s.heap.get? a=some o/\H a=none)->Ø3 a s.heap h'->HOk X.prog X.w H h':=λ{a h'} ha hs b ob e=>by
  obtain⟨_,_,hfree⟩:=ha;refine(I.hok b ob e).f01 (λc w' hc q=>(hs.2 c ?_).trans q) (λ_ q=>q) λ_ _ q=>q;rintro rfl;rcases hc with rfl | hc
  ·rw[hfree] at e;cases e
  ·rw[hfree] at hc;cases hc
 rcases hx with hk | hk
 ·refine Õ0 hk hn (λh' hn' hs=>?_) hcls;obtain⟨oL,_,_,hoL,_⟩:=id hn;refine h _ ⟨I.ok,I.os,I.bare,⟨λb o e n hb hx=>?_,λb o e n hb hx=>?_,I.base.free,λb o e hx=>?_,I.base.tups,I.base.frzs,I.base.tbls⟩,⟨_,hn',λj y v' e1 e2 e3=>?_⟩,λy c e=>?_,I.free,I.freeC,λp hp=>?_,tracked ⟨oL,hoL,I.free⟩ hs,by simpa using I.len⟩ ⟨_,hs,.inl rfl⟩
  ·exact(hs.2 b (ä (Ø (á e) I.ok.above))).trans (I.base.keep b o e n hb hx)
  ·obtain⟨sl,e1⟩:=I.base.slot b o e n hb hx;exact⟨sl,(hs.2 b (ä (Ø (á e) I.ok.above))).trans e1⟩
  ·obtain⟨o',e1⟩:=I.base.there b o e hx;exact⟨o',(hs.2 b (ä (Ø (á e) I.ok.above))).trans e1⟩
  ·by_cases hj:j=i
   ·subst hj;rw[hi] at e1;cases e1;rw[ñ hiσ] at e2;cases e2;exact⟨u,r,.inl ⟨hk,by simp⟩⟩
   ·rw[ê (Á0 hj)] at e2;obtain⟨u',r',q⟩:=hl j y v' e1 e2 e3;refine⟨u',r',?_⟩;rcases q with ⟨k,e⟩ | ⟨k,c,e,z⟩
    ·refine .inl ⟨k,?_⟩;have:y≠x:=λe=>hj (Y20 hN e1 (e ▸ hi));simp[this,e]
    ·exact .inr ⟨k,c,e,z.sameBut hs (cne y c e)⟩
  ·obtain⟨w',z⟩:=I.cell y c e;exact⟨w',z.sameBut hs (cne y c e)⟩
  ·obtain⟨e,n,ne,nf,d⟩:=I.pin p hp;exact⟨(hs.2 p.1 ne).trans e,n,ne,nf,d⟩
 ·have hfn:X.fn x=true:=by
   rcases hf with z | z
   ·exact z
   ·rw[z] at hk;cases hk
  obtain⟨c,hc⟩:=I.ok.has x (.inl hk);obtain⟨w',z⟩:=I.cell x c hc;refine wpAny_storeName_cell I.ok.kind hk hc z (λh' hc' hs=>?_);obtain⟨oc,hoc,hocd⟩:=id z;refine h { s with heap:=h' } ⟨I.ok,I.os,I.bare,⟨λb o e n hb hx=>?_,λb o e n hb hx=>?_,I.base.free,λb o e hx=>?_,I.base.tups,I.base.frzs,I.base.tbls⟩,⟨m,hn.sameBut hs (Á0 (cne x c hc)),λj y v' e1 e2 e3=>?_⟩,λy c' e=>?_,I.free,I.freeC,λp hp=>?_,tracked ⟨oc,hoc,I.freeC x c hc⟩ hs,by simpa using I.len⟩ ⟨c,hs,.inr hc⟩
  ·exact(hs.2 b (ä (Ø (á e) (I.ok.cab x c hfn hc)))).trans (I.base.keep b o e n hb hx)
  ·obtain⟨sl,e1⟩:=I.base.slot b o e n hb hx;exact⟨sl,(hs.2 b (ä (Ø (á e) (I.ok.cab x c hfn hc)))).trans e1⟩
  ·obtain⟨o',e1⟩:=I.base.there b o e hx;exact⟨o',(hs.2 b (ä (Ø (á e) (I.ok.cab x c hfn hc)))).trans e1⟩
  ·by_cases hj:j=i
   ·subst hj;rw[hi] at e1;cases e1;rw[ñ hiσ] at e2;cases e2;exact⟨u,r,.inr ⟨.inl hk,c,hc,hc'⟩⟩
   ·rw[ê (Á0 hj)] at e2;obtain⟨u',r',q⟩:=hl j y v' e1 e2 e3;refine⟨u',r',?_⟩;rcases q with q | ⟨k,c',e,z'⟩
    ·exact .inl q
    ·refine .inr ⟨k,c',e,z'.sameBut hs ?_⟩;rintro rfl;exact hj (Y20 hN e1 (I.ok.inj _ _ _ e hc ▸ hi))
  ·by_cases hcc:c'=c
   ·subst hcc;exact⟨_,hc'⟩
   ·obtain⟨w2,z2⟩:=I.cell y c' e;exact⟨w2,z2.sameBut hs hcc⟩
  ·obtain⟨e,n,ne,nf,d⟩:=I.pin p hp;refine⟨(hs.2 p.1 ?_).trans e,n,ne,nf,d⟩;intro q;rw[q,hoc] at e;have q':oc=p.2:=Á2 e;exact d w' (by rw[← q'];exact hocd)
theorem x90{M:Model}{A:ù}{E:Ã->Å->Prop}{i:Nat}{x:Str}{v:V}{u:Ã}{Q:Unit->Å->Prop}(I:Inv X pins σ H s)(hN:X.N.Nodup)(hi:X.N[i]?=some x)(hx:Loc X.env.scope x)(r:RelV v u)
  (h:∀ s',Inv X pins (σ.set i (some v)) H s'->Q () s') (hf:X.fn x=true∨X.env.scope.names.lookup x=some .local:=by first | exact .inl rfl | exact .inr rfl | assumption):Ó M A (storeName X.env x u) Q E s :=
 z00 I hN hi hx r (λs' I' _=>h s' I') hf
theorem Inv.b02{s':Å}{ch:List Æ}(I:Inv X pins σ H s)(ho:s'.os=s.os)(u:Un (frs X.stack) ch H H' s.heap s'.heap)(hok:HOk X.prog X.w H' s'.heap)(hg:Ò1 s'.gens)
  (hch:∀ b∈ch,(b∈X.ex∨X.s₀.heap.objs.size<=b)/\b≠X.env.locals/\(∀ x c,X.env.cells.lookup x=some c->c≠b)/\∀ p∈X.pn++pins,p.1≠b):Inv X pins σ H' s':=by
 obtain⟨h',g',d',t',o'⟩:=s';have e:o'=s.os:=ho;subst e;exact I.call (g':=g') (t':=t') (d':=d') u hok hg hch
end
abbrev XK:=Ã->Option Æ->Hp->Prop
abbrev St:=List (Option V)
abbrev VK:=V->Hp->Prop
abbrev TE:=St->Hp->VK->Prop
abbrev TT:=St->Hp->(Bool->Hp->Prop)->Prop
abbrev TA:=St->Hp->(List V->Hp->Prop)->Prop
structure Ends where
 nx:St->Hp->Prop
 rt:VK
 bk:St->Hp->Prop:=λ_ _=>False
 ct:St->Hp->Prop:=λ_ _=>False
abbrev TS:=Ends->St->Hp->Prop
def EP(X:Cx)(pins:List (Æ × Obj))(σ:St)(Q:VK)(u:Ã)(s':Å):Prop:=∃ v H',Inv X pins σ H' s'/\RelV v u/\Q v H'
def TP(X:Cx)(pins:List (Æ × Obj))(σ:St)(Q:Bool->Hp->Prop)(b:Bool)(s':Å):Prop:=∃ H',Inv X pins σ H' s'/\Q b H'
def AP(X:Cx)(pins:List (Æ × Obj))(σ:St)(Q:List V->Hp->Prop)(us:List Ã)(s':Å):Prop:=∃ vs H',Inv X pins σ H' s'/\Vals vs us/\Q vs H'
def SP(X:Cx)(pins:List (Æ × Obj))(D:Ends)(f:Flow)(s':Å):Prop :=
 match f with
 |.next=>∃ σ' H',Inv X pins σ' H' s'/\D.nx σ' H'
 |.brk=>∃ σ' H',Inv X pins σ' H' s'/\D.bk σ' H'|.cont=>∃ σ' H',Inv X pins σ' H' s'/\D.ct σ' H'|.ret u=>∃ v σ' H',Inv X pins σ' H' s'/\RelV v u/\D.rt v H'
def PE(X:Cx)(e:Ñ)(t:TE):Prop :=
 ∀ (pins:List (Æ × Obj)) (s:Å) (σ:St) (H:Hp) (Q:VK),Inv X pins σ H s->t σ H Q->Ó (Ü X.prog X.w) X.A (eval e X.env) (EP X pins σ Q) X.xe s
def PT(X:Cx)(e:Ñ)(t:TT):Prop :=
 ∀ (pins:List (Æ × Obj)) (s:Å) (σ:St) (H:Hp) (Q:Bool->Hp->Prop),Inv X pins σ H s->t σ H Q->Ó (Ü X.prog X.w) X.A (isTrue e X.env (eval e X.env)) (TP X pins σ Q) X.xe s
def PW(X:Cx)(e:Ñ)(t:TT):Prop :=
 ∀ (whole:Sem Ã) (pins:List (Æ × Obj)) (s:Å) (σ:St) (H:Hp) (Q:Bool->Hp->Prop),Inv X pins σ H s->t σ H Q->Ó (Ü X.prog X.w) X.A (isTrue e X.env whole) (TP X pins σ Q) X.xe s
theorem PW.pt{X:Cx}{e:Ñ}{t:TT}(h:PW X e t):PT X e t:=h _
def PA(X:Cx)(es:List Ñ)(t:TA):Prop :=
 ∀ (pos:Pos) (pins:List (Æ × Obj)) (s:Å) (σ:St) (H:Hp) (Q:List V->Hp->Prop),Inv X pins σ H s->t σ H Q->Ó (Ü X.prog X.w) X.A (spliced (Ó9 pos (û es X.env))) (AP X pins σ Q) X.xe s
def PS(X:Cx)(st:Å0)(t:TS):Prop :=
 ∀ (pins:List (Æ × Obj)) (s:Å) (σ:St) (H:Hp) (D:Ends),Inv X pins σ H s->t D σ H->Ó (Ü X.prog X.w) X.A (exec st X.env) (SP X pins D) X.xe s
def PSs(X:Cx)(st:List Å0)(t:TS):Prop :=
 ∀ (pins:List (Æ × Obj)) (s:Å) (σ:St) (H:Hp) (D:Ends),Inv X pins σ H s->t D σ H->Ó (Ü X.prog X.w) X.A (execs st X.env) (SP X pins D) X.xe s
theorem thn{α:Type}{t:Sem α}{Q Q':α->Å->Prop}{M:Model}{A:ù}{E:Ã->Å->Prop}{s:Å}(h:Ó M A t Q E s)(hQ:∀ a s,Q a s->Q' a s):Ó M A t Q' E s:=Â5 h hQ λ_ _ x=>x
section
variable {X:Cx}
def Z31(i:Nat):TE:=λσ H Q=>∃ v,σ[i]?=some (some v)/\Q v H
def tC(v:V):TE:=λ_ H Q=>Q v H
theorem m50{i:Nat}{x:Str}{pos:Pos}(hN:X.N[i]?=some x)(hv:Vis X.env.scope x)(hd:(x == ("__debug__":Str))=false:=by decide)(hcd:(x == ("__classdict__":Str))=false:=by decide):PE X (.Name x pos) (Z31 i):=by
 intro pins s σ H Q I h;obtain⟨v,e,h⟩:=h;obtain⟨m,hn,hl⟩:=I.loc;obtain⟨u,r,l⟩:=hl i x v hN e hv;have fin:EP X pins σ Q u s:=⟨v,H,I,r,h⟩;rcases l with ⟨hk,hm⟩ | ⟨hk,c,hc,hcell⟩
 ·exact Ì7 (Í4 I.ok.kind hk hn hm fin) hd
 ·rcases hk with hk | hk
  ·exact Ì7 (wpAny_loadName_cell I.ok.kind hk hc hcell fin) hd
  ·exact Ì7 (wpAny_loadName_free I.ok.kind hk hc hcell fin hcd) hd
theorem Y30{i j pos}:PE X (.Constant (.int i) j pos) (tC (.int i)):=λ_ _ _ H _ I h=>wpAny_Constant_int ⟨.int i,H,I.tok _,⟨_,rfl⟩,h⟩
theorem r52{b j pos}:PE X (.Constant (.bool b) j pos) (tC (.bl b)):=λ_ _ _ H _ I h=>Constant_bool ⟨.bl b,H,I,rfl,h⟩
theorem j91{j pos}:PE X (.Constant .none j pos) (tC .non):=λ_ _ _ H _ I h=>Constant_none ⟨.non,H,I,rfl,h⟩
theorem I91{x j pos}:PE X (.Constant (.str x) j pos) (tC (.str x)):=λ_ _ _ H _ I h=>Calls.Constant_str ⟨.str x,H,I.tok _,⟨_,rfl⟩,h⟩
def Gl(X:Cx)(x:Str):Prop:=X.env.kindOf x=some .globalImplicit
theorem G20{E:Ã->Å->Prop}{pins:List (Æ × Obj)}{s:Å}{σ:St}{H:Hp}{x:Str}{u:Ã}{pos:Pos}{Q:Ã->Å->Prop}(I:Inv X pins σ H s)(hg:Gl X x)(hm:X.mg x=some u)(h:Q u s)
  (hd:(x == ("__debug__":Str))=false:=by decide):Ó (Ü X.prog X.w) X.A (eval (.Name x pos) X.env) Q E s :=
 Í8 I.ok.kind hg (Ý0 (by rw[I.ok.glob];exact I.mod.glob.keeps I.bk) hm h) hd
theorem w10{E:Ã->Å->Prop}{pins:List (Æ × Obj)}{s:Å}{σ:St}{H:Hp}{x:Str}{u:Ã}{pos:Pos}{Q:Ã->Å->Prop}(I:Inv X pins σ H s)(hg:Gl X x)(hm:X.mg x=none)(hv:ð x=some u)(h:Q u s)
  (hn:x≠"__name__":=by decide) (hd:(x == ("__debug__":Str))=false:=by decide):Ó (Ü X.prog X.w) X.A (eval (.Name x pos) X.env) Q E s:=by
 obtain⟨mb,h1,h2⟩:=I.mod.blt;exact Í8 I.ok.kind hg (Calls.loadGlobal_builtin (by rw[I.ok.glob];exact I.mod.glob.keeps I.bk) hm (by rw[I.ok.blt];exact h1.keeps I.bk) ((h2 x hn).trans hv) h) hd
theorem f00{x:Str}{v:V}{u:Ã}{pos:Pos}(hg:Gl X x)(hm:X.mg x=some u)(r:RelV v u)(hd:(x == ("__debug__":Str))=false:=by decide):PE X (.Name x pos) (tC v) :=
 λ_ _ _ H _ I h=>G20 I hg hm ⟨v,H,I,r,h⟩ hd
theorem G30{x:Str}{v:V}{u:Ã}{pos:Pos}(hg:Gl X x)(hm:X.mg x=none)(hv:ð x=some u)(r:RelV v u)(hn:x≠"__name__":=by decide)(hd:(x == ("__debug__":Str))=false:=by decide):PE X (.Name x pos) (tC v) :=
 λ_ _ _ H _ I h=>w10 I hg hm hv ⟨v,H,I,r,h⟩ hn hd
variable {a b:Ñ}{ta tb:TE}{pos:Pos}
def tB(t:TE):TT:=λσ H Q=>t σ H λx H1=>∃ c,x=.bl c/\Q c H1
theorem k01{e:Ñ}{t:TE}(h:PE X e t)(he:∀ whole,isTrue e X.env whole=(do let v ← whole;standAt e.pos;holding [v] (truthy v)):=by intro _;rfl):PT X e (tB t):=by
 intro pins s σ H Q I hw;refine isTrue_plain (thn (h pins s σ H _ I hw) λv s1 ⟨x,H1,I1,r1,q1⟩=>?_) (he _);obtain⟨d,rfl,q⟩:=q1;cases r1;exact À3 ⟨H1,I1,q⟩
variable {tA tB':TT}{rest:List Ñ}
def F82(t u:TT):TT:=λσ H Q=>t σ H λc H1=>if c=true then u σ H1 Q else Q false H1
def tOr(t u:TT):TT:=λσ H Q=>t σ H λc H1=>if c=true then Q true H1 else u σ H1 Q
def F92(t:TT):TT:=λσ H Q=>t σ H λc H1=>Q (!c) H1
theorem M91(ha:PT X a tA):PW X (.BoolOp .And [a] pos) tA:=by
 intro wh pins s σ H Q I h;refine isTrue_and (thn (ha pins s σ H Q I h) λc s1 e=>?_);cases c with
 |true=>exact isTrue_and_nil e|false=>exact e
theorem b12(ha:PT X a tA):PW X (.BoolOp .Or [a] pos) tA:=by
 intro wh pins s σ H Q I h;refine isTrue_or (thn (ha pins s σ H Q I h) λc s1 e=>?_);cases c with
 |false=>exact isTrue_or_nil e|true=>exact e
theorem b22(ha:PT X a tA)(hb:PW X (.BoolOp .And (b::rest) pos) tB'):PW X (.BoolOp .And (a::b::rest) pos) (F82 tA tB'):=by
 intro wh pins s σ H Q I h;refine isTrue_and (thn (ha pins s σ H _ I h) λc s1 ⟨H1,I1,q1⟩=>?_);cases c with
 |true=>exact hb wh pins s1 σ H1 Q I1 q1|false=>exact⟨H1,I1,q1⟩
theorem r62(ha:PT X a tA)(hb:PW X (.BoolOp .Or (b::rest) pos) tB'):PW X (.BoolOp .Or (a::b::rest) pos) (tOr tA tB'):=by
 intro wh pins s σ H Q I h;refine isTrue_or (thn (ha pins s σ H _ I h) λc s1 ⟨H1,I1,q1⟩=>?_);cases c with
 |true=>exact⟨H1,I1,q1⟩|false=>exact hb wh pins s1 σ H1 Q I1 q1
theorem J01(ha:PT X a tA):PT X (.UnaryOp .Not a pos) (F92 tA):=by
 intro pins s σ H Q I h;exact isTrue_not (ha pins s σ H (λc H1=>Q (!c) H1) I h)
def r72(ta tb:TE):TE:=λσ H Q=>ta σ H λx H1=>∃ c,x=.bl c/\if c=true then tb σ H1 Q else Q (.bl false) H1
def G02(ta tb:TE):TE:=λσ H Q=>ta σ H λx H1=>∃ c,x=.bl c/\if c=true then Q (.bl true) H1 else tb σ H1 Q
def r82(ta:TE):TE:=λσ H Q=>ta σ H λx H1=>∃ c,x=.bl c/\Q (.bl (!c)) H1
theorem b32{op}{t:TE}(h:PE X a t):PE X (.BoolOp op [a] pos) t:=λpins s σ H Q I hw=>BoolOp_one (h pins s σ H Q I hw)
theorem b42(ha:PE X a ta)(hb:PE X (.BoolOp .And (b::rest) pos) tb):PE X (.BoolOp .And (a::b::rest) pos) (r72 ta tb):=by
 intro pins s σ H Q I h;refine BoolOp_and (thn (ha pins s σ H _ I h) λv s1 ⟨x,H1,I1,r1,q1⟩=>?_);obtain⟨c,rfl,q1⟩:=q1;cases r1;refine À3 ?_;cases c with
 |true=>exact hb pins s1 σ H1 Q I1 q1|false=>exact⟨.bl false,H1,I1,rfl,q1⟩
theorem r92(ha:PE X a ta)(hb:PE X (.BoolOp .Or (b::rest) pos) tb):PE X (.BoolOp .Or (a::b::rest) pos) (G02 ta tb):=by
 intro pins s σ H Q I h;refine BoolOp_or (thn (ha pins s σ H _ I h) λv s1 ⟨x,H1,I1,r1,q1⟩=>?_);obtain⟨c,rfl,q1⟩:=q1;cases r1;refine À3 ?_;cases c with
 |false=>exact hb pins s1 σ H1 Q I1 q1|true=>exact⟨.bl true,H1,I1,rfl,q1⟩
theorem b52(ha:PE X a ta):PE X (.UnaryOp .Not a pos) (r82 ta):=by
 intro pins s σ H Q I h;refine UnaryOp_ (thn (ha pins s σ H _ I h) λv s1 ⟨x,H1,I1,r1,q1⟩=>?_);obtain⟨c,rfl,q1⟩:=q1;cases r1;exact not_of (À3 ⟨.bl (!c),H1,I1,rfl,q1⟩)
def tIf(t:TT)(ta tb:TE):TE:=λσ H Q=>t σ H λc H1=>if c=true then ta σ H1 Q else tb σ H1 Q
theorem z61{c:Ñ}(hc:PT X c tA)(ha:PE X a ta)(hb:PE X b tb):PE X (.IfExp c a b pos) (tIf tA ta tb):=by
 intro pins s σ H Q I h;refine wpAny_IfExp (thn (hc pins s σ H _ I h) λd s1 ⟨H1,I1,q1⟩=>?_);cases d with
 |true=>exact ha pins s1 σ H1 Q I1 q1|false=>exact hb pins s1 σ H1 Q I1 q1
end
def SqL(K:Á)(H:Hp)(a:Æ)(xs:List V):Prop :=
 Rd H a (.lst xs) ∨
  ∃ (o:Obj) (its:Array Ã) (n:Nat),K.lookup a=some o/\o.cls=.type "list"/\o.dict=none/\o.data=.seq its n/\its.size<=sizeLine/\Vals xs its.toList
def SqT(K:Á)(H:Hp)(a:Æ)(xs:List V):Prop :=
 Rd H a (.tup xs) ∨
  ∃ (o:Obj) (its:Array Ã) (n:Nat),K.lookup a=some o/\o.cls=.type "tuple"/\o.data=.seq its n/\its.size<=sizeLine/\Vals xs its.toList
def G12:Ã->Option V
 |.none=>some .non|.bool b=>some (.bl b)|.int i _=>some (.int i)|.str x _=>some (.str x)|.bytes b _=>some (.byt b)|.float b _=>some (.flt b)|.ref a=>some (.ref a)|.type n=>some (.ty n)|_=>none
theorem RelV.abs{x:V}{u:Ã}(r:RelV x u):G12 u=some x:=by
 cases x with
 |non=>cases r;rfl
 |bl _=>cases r;rfl
 |int _=>obtain⟨t,rfl⟩:=r;rfl
 |str _=>obtain⟨t,rfl⟩:=r;rfl
 |byt _=>obtain⟨t,rfl⟩:=r;rfl
 |flt _=>obtain⟨t,rfl⟩:=r;rfl
 |ref _=>cases r;rfl
 |ty _=>cases r;rfl
theorem RelV.inj{x y:V}{u:Ã}(r:RelV x u)(q:RelV y u):x=y:=Á2 (r.abs.symm.trans q.abs)
theorem Vals.inj:∀ {xs ys:List V}{us:List Ã},Vals xs us->Vals ys us->xs=ys
 |_,_,_,.nil,.nil=>rfl|_,_,_,.cons r t,.cons r' t'=>by rw[r.inj r',Vals.inj t t']
section
variable {X:Cx}{pins:List (Æ × Obj)}{σ:St}{H:Hp}{s:Å}{a:Æ}{xs ys:List V}
theorem SqL.of{K:Á}(h:H a=some (.lst xs)):SqL K H a xs:=.inl (.inl h)
theorem SqT.of{K:Á}(h:H a=some (.tup xs)):SqT K H a xs:=.inl (.inl h)
theorem Inv.list(I:Inv X pins σ H s)(h:SqL X.K H a xs):∃ its:List Ã,Vals xs its/\PlainL s.heap a its.toArray/\xs.length<=sizeLine:=by
 rcases h with h | ⟨o,its,n,hk,hc,hd,hs,hz,r⟩
 ·obtain⟨z,its,n,r,e⟩:=h.ok I.hok;exact⟨its,r,⟨_,n,e,rfl,rfl,rfl⟩,z⟩
 ·refine⟨its.toList,r,⟨o,n,I.kIn a o hk,hc,hd,by simpa using hs⟩,?_⟩
  have e:=r.length;simp only[È9] at e;omega
theorem Inv.tuple(I:Inv X pins σ H s)(h:SqT X.K H a xs):∃ its:List Ã,Vals xs its/\Ï4 s.heap a its.toArray/\xs.length<=sizeLine:=by
 rcases h with h | ⟨o,its,n,hk,hc,hs,hz,r⟩
 ·obtain⟨z,its,r,p⟩:=h.ok I.hok;exact⟨its,r,p,z⟩
 ·refine⟨its.toList,r,⟨o,I.kIn a o hk,hc,n,by simpa using hs⟩,?_⟩
  have e:=r.length;simp only[È9] at e;omega
theorem Inv.Y40(I:Inv X pins σ H s)(h:SqL X.K H a xs)(h':SqL X.K H a ys):xs=ys:=by
 obtain⟨its,r,⟨o,n,e,_,_,d⟩,_⟩:=I.list h;obtain⟨its',r',⟨o',n',e',_,_,d'⟩,_⟩:=I.list h';rw[e] at e';cases e';rw[d] at d';injection d' with d1 _;have:its=its':=by simpa using congrArg toList d1
 subst this;exact r.inj r'
theorem Inv.L60(I:Inv X pins σ H s)(h:SqT X.K H a xs)(h':SqT X.K H a ys):xs=ys:=by
 obtain⟨its,r,⟨o,e,_,n,d⟩,_⟩:=I.tuple h;obtain⟨its',r',⟨o',e',_,n',d'⟩,_⟩:=I.tuple h';rw[e] at e';cases e';rw[d] at d';injection d' with d1 _;have:its=its':=by simpa using congrArg toList d1
 subst this;exact r.inj r'
end
abbrev Cx.y61(X:Cx)(E:Ã->Å->Prop):Cx:={ X with xe:=E }
abbrev Cx.nox(X:Cx):Cx:=X.y61 λ_ _=>False
theorem Cx.Ok.y61{X:Cx}(ok:X.Ok)(E:Ã->Å->Prop):(X.y61 E).Ok :=
 ⟨ok.mod,ok.kind,ok.glob,ok.blt,ok.above,ok.inj,ok.has,ok.cab,ok.hd,ok.frames,ok.stk,ok.exf,ok.bs,ok.bsz,ok.noex,ok.exfs,ok.f11,ok.frf⟩
theorem Cx.Ok.w20{X:Cx}{E:Ã->Å->Prop}(ok:(X.y61 E).Ok):X.Ok :=
 ⟨ok.mod,ok.kind,ok.glob,ok.blt,ok.above,ok.inj,ok.has,ok.cab,ok.hd,ok.frames,ok.stk,ok.exf,ok.bs,ok.bsz,ok.noex,ok.exfs,ok.f11,ok.frf⟩
section
variable {X:Cx}{pins:List (Æ × Obj)}{σ:St}{H:Hp}{s:Å}{E:Ã->Å->Prop}
theorem Inv.y61(I:Inv X pins σ H s)(E:Ã->Å->Prop):Inv (X.y61 E) pins σ H s:=⟨I.ok.y61 E,I.os,I.bare,I.base,I.loc,I.cell,I.free,I.freeC,I.pin,I.hok,I.len⟩
theorem Inv.w20(I:Inv (X.y61 E) pins σ H s):Inv X pins σ H s:=⟨I.ok.w20,I.os,I.bare,I.base,I.loc,I.cell,I.free,I.freeC,I.pin,I.hok,I.len⟩
theorem SP.w20{D:Ends}{f:Flow}{s':Å}(h:SP (X.y61 E) pins D f s'):SP X pins D f s':=by
 cases f with
 |next=>obtain⟨σ',H',I,q⟩:=h;exact⟨σ',H',I.w20,q⟩
 |brk=>obtain⟨σ',H',I,q⟩:=h;exact⟨σ',H',I.w20,q⟩
 |cont=>obtain⟨σ',H',I,q⟩:=h;exact⟨σ',H',I.w20,q⟩
 |ret u=>obtain⟨v,σ',H',I,r,q⟩:=h;exact⟨v,σ',H',I.w20,r,q⟩
theorem PSs.nox{st:List Å0}{t:TS}(h:PSs X.nox st t):PSs X st t:=λpins s σ H D I hw =>
 Â5 (h pins s σ H D (I.y61 _) hw) (λ_ _ q=>q.w20) λ_ _ z=>ý z
end
section
variable {X:Cx}{st:Å0}{rest:List Å0}{t u:TS}{e:Ñ}{te:TE}{pos:Pos}
def s02:TS:=λD σ H=>D.nx σ H
def G22(t u:TS):TS:=λD σ H=>t { D with nx:=u D } σ H
theorem k21:PSs X [] s02:=λ_ _ σ H _ I h=>Î2 ⟨σ,H,I,h⟩
theorem i90(h1:PS X st t)(h2:PSs X rest u):PSs X (st::rest) (G22 t u):=by
 intro pins s σ H D I h;refine Ó1 (thn (h1 pins s σ H { D with nx:=u D } I h) λf s1 q=>?_);cases f with
 |next =>
  obtain⟨σ',H',I',q⟩:=q;exact h2 pins s1 σ' H' D I' q
 |ret v=>exact q|brk=>exact q|cont=>exact q
theorem k31(h1:PS X st t):PSs X [st] t:=by
 intro pins s σ H D I h;refine Ó1 (thn (h1 pins s σ H D I h) λf s1 q=>?_);cases f with
 |next=>exact Î2 q
 |ret v=>exact q|brk=>exact q|cont=>exact q
theorem Inv.quiet{pins:List (Æ × Obj)}{σ:St}{H:Hp}{s:Å}(I:Inv X pins σ H s):interactive X.env=false:=by simp[interactive,I.ok.kind]
def b62(te:TE):TS:=λD σ H=>te σ H λ_ H1=>D.nx σ H1
theorem S40(he:PE X e te)(hs:Ð2 e none pos.line X.env=pure false:=by rfl):PS X (.Expr e pos) (b62 te):=by
 intro pins s σ H D I h;exact wpAny_Expr_any (thn (he pins s σ H _ I h) λv s1 ⟨x,H1,I1,r1,q1⟩=>⟨σ,H1,I1,q1⟩) I.quiet hs
def G32(te:TE):TS:=λD σ H=>te σ H D.rt
theorem Y50(he:PE X e te):PS X (.Return (some e) pos) (G32 te):=by
 intro pins s σ H D I h;exact wpAny_Return_some (thn (he pins s σ H _ I h) λv s1 ⟨x,H1,I1,r1,q1⟩=>⟨x,σ,H1,I1,r1,q1⟩)
def s12:TS:=λD _ H=>D.rt .non H
theorem N01:PS X (.Return none pos) s12:=λ_ _ σ H _ I h=>wpAny_Return_none ⟨.non,σ,H,I,rfl,h⟩
def G42(c:TT)(t u:TS):TS:=λD σ H=>c σ H λb H1=>if b=true then t D σ H1 else u D σ H1
theorem b72{c:Ñ}{a b:List Å0}{tc:TT}(hc:PT X c tc)(ha:PSs X a t)(hb:PSs X b u):PS X (.If c a b pos) (G42 tc t u):=by
 intro pins s σ H D I h;refine wpAny_If (thn (hc pins s σ H _ I h) λd s1 ⟨H1,I1,q1⟩=>?_);cases d with
 |true=>exact ha pins s1 σ H1 D I1 q1|false=>exact hb pins s1 σ H1 D I1 q1
end
abbrev TG:=V->St->Hp->(St->Hp->Prop)->Prop
abbrev TGs:=List V->St->Hp->(St->Hp->Prop)->Prop
def PG(X:Cx)(target:Ñ)(t:TG):Prop :=
 ∀ (pins:List (Æ × Obj)) (s:Å) (σ:St) (H:Hp) (v:V) (u:Ã) (Q:St->Hp->Prop),Inv X pins σ H s->RelV v u->t v σ H Q ->
  Ó (Ü X.prog X.w) X.A (Ö5 target X.env u) (λ_ s'=>∃ σ' H',Inv X pins σ' H' s'/\Q σ' H') X.xe s
def PGs(X:Cx)(ts:List Ñ)(t:TGs):Prop :=
 ∀ (pins:List (Æ × Obj)) (s:Å) (σ:St) (H:Hp) (vs:List V) (us:List Ã) (Q:St->Hp->Prop),Inv X pins σ H s->Vals vs us->t vs σ H Q ->
  Ó (Ü X.prog X.w) X.A (assignInOrder ((È3 ts X.env).map (·.2)) us) (λ_ s'=>∃ σ' H',Inv X pins σ' H' s'/\Q σ' H') X.xe s
abbrev q52:=V->V->V->Hp->(Hp->Prop)->Prop
def C42(X:Cx)(t:q52):Prop :=
 ∀ (pins:List (Æ × Obj)) (s:Å) (σ:St) (H:Hp) (o i v:V) (ov iv u:Ã) (Q:Hp->Prop),Inv X pins σ H s->RelV o ov->RelV i iv->RelV v u->t o i v H Q ->
  Ó (Ü X.prog X.w) X.A (setItem ov iv u) (λ_ s'=>∃ H',Inv X pins σ H' s'/\Q H') X.xe s
abbrev TIp:=V->V->Hp->VK->Prop
def PIp(X:Cx)(op:Operator)(t:TIp):Prop :=
 ∀ (pins:List (Æ × Obj)) (s:Å) (σ:St) (H:Hp) (x y:V) (v u:Ã) (Q:VK),Inv X pins σ H s->RelV x v->RelV y u->t x y H Q ->
  Ó (Ü X.prog X.w) X.A (inplaceOp op v u) (EP X pins σ Q) X.xe s
section
variable {X:Cx}{pos:Pos}
def S50(i:Nat):TG:=λv σ H Q=>Q (σ.set i (some v)) H
theorem k41{i:Nat}{x:Str}(hN:X.N.Nodup)(hi:X.N[i]?=some x)(hx:Loc X.env.scope x)(hf:X.fn x=true∨X.env.scope.names.lookup x=some .local:=by first | exact .inl rfl | exact .inr rfl | assumption):PG X (.Name x pos) (S50 i):=by
 intro pins s σ H v u Q I r h;exact Ú8 (x90 I hN hi hx r (λs' I'=>⟨_,H,I',h⟩) hf)
def C52:TGs:=λvs σ H Q=>vs=[]/\Q σ H
def b82(t:TG)(u:TGs):TGs:=λvs σ H Q=>∃ v r,vs=v::r/\t v σ H λσ' H'=>u r σ' H' Q
theorem N11:PGs X [] C52:=by
 intro pins s σ H vs us Q I r h;obtain⟨e,h⟩:=h;subst e;cases r;exact assignInOrder_nil ⟨σ,H,I,h⟩
theorem z71{e:Ñ}{es:List Ñ}{t:TG}{u:TGs}(h1:PG X e t)(h2:PGs X es u)
  (hs:(È3 (e::es) X.env).map (·.2)=Ö5 e X.env::(È3 es X.env).map (·.2):=by rfl):PGs X (e::es) (b82 t u):=by
 intro pins s σ H vs us Q I r h;obtain⟨v,vr,e1,h⟩:=h;subst e1;cases r with
 |cons r rr =>
  rw[hs];refine Ù8 (thn (h1 pins s σ H _ _ _ I r h) λ_ s1 ⟨σ1,H1,I1,q1⟩=>?_);exact h2 pins s1 σ1 H1 _ _ Q I1 rr q1
def C62(K:Á)(n:Nat)(t:TGs):TG:=λv σ H Q=>∃ a xs,v=.ref a/\SqT K H a xs/\xs.length=n/\t xs σ H Q
theorem b92{es:List Ñ}{k:Nat}{t:TGs}{n:Nat}(hc:X.calm=true)(h:PGs X es t)
  (hn:(È3 es X.env).length=n:=by rfl) (hst:(È3 es X.env).findIdx? (·.1)=none:=by rfl):PG X (.Tuple es k pos) (C62 X.K n t):=by
 intro pins s σ H v u Q I r hw;obtain⟨a,xs,e1,hq,hl,hw⟩:=hw;subst e1;cases r;obtain⟨its,rv,ht,hz⟩:=I.tuple hq;refine assign_Tuple_tuple (I.ok.hd hc) ht (by simp[hn,← hl,rv.length]) hst λh' hx=>?_
 have I1:Inv X pins σ H { s with heap:=h' }:=I.kept (t':=s.toks) λb o e=>hx b o (ä (á e)) e;exact h pins _ σ H xs _ Q I1 (by simpa using rv) hw
def G52(to ti:TE)(t:q52):TG:=λv σ H Q=>to σ H λo H1=>ti σ H1 λi H2=>t o i v H2 λH3=>Q σ H3
theorem c02{o i:Ñ}{to ti:TE}{t:q52}(ho:PE X o to)(hi:PE X i ti)(hs:C42 X t)
  (ha:∀ v,Ö5 (.Subscript o i pos) X.env v=(do
   let ov ← holding [v] (eval o X.env)
   let iv ← holding [v,ov] (eval i X.env)
   standAt pos
   holding [v,ov,iv] (setItem ov iv v)
   release [v,ov,iv] []):=by intro _;rfl):PG X (.Subscript o i pos) (G52 to ti t):=by
 intro pins s σ H v u Q I r h;rw[ha];refine À (Å1 (thn (ho pins s σ H _ I h) λov s1 ⟨x,H1,I1,r1,q1⟩=>?_));refine À (Å1 (thn (hi pins s1 σ H1 _ I1 q1) λiv s2 ⟨y,H2,I2,r2,q2⟩=>?_));refine À (Ø9 (À (Å1 (thn (hs pins s2 σ H2 x y v ov iv u _ I2 r1 r2 r q2) λ_ s3 ⟨H3,I3,q3⟩=>?_))));exact wpAny_release ⟨σ,H3,I3,q3⟩
def c12(te:TE)(g:TG):TS:=λD σ H=>te σ H λx H1=>g x σ H1 D.nx
theorem J11{tg e:Ñ}{te:TE}{g:TG}(he:PE X e te)(hg:PG X tg g)(hs:swapsWithSole [tg] e pos.line X.env=pure false:=by rfl)(hw:Ã4 [tg] e X.env=pure none:=by rfl)
  (h1:(È3 [tg] X.env).map (·.2)=[Ö5 tg X.env]:=by rfl):PS X (.Assign [tg] e pos) (c12 te g):=by
 intro pins s σ H D I h;refine wpAny_Assign_stores (thn (he pins s σ H _ I h) λv s1 ⟨x,H1,I1,r1,q1⟩=>?_) hs hw;rw[h1];exact thn (hg pins s1 σ H1 x v _ I1 r1 q1) λ_ s2 q=>q
theorem r40{i:Nat}{x:Str}{e:Ñ}{te:TE}{pos':Pos}(hN:X.N.Nodup)(hi:X.N[i]?=some x)(hx:Loc X.env.scope x)(he:PE X e te)(hs:Ð2 e (some (.Name x pos')) pos.line X.env=pure false:=by rfl)(hf:X.fn x=true∨X.env.scope.names.lookup x=some .local:=by first | exact .inl rfl | exact .inr rfl | assumption) :
  PS X (.Assign [.Name x pos'] e pos) (c12 te (S50 i)):=by
 intro pins s σ H D I h;refine wpAny_Assign_Name (thn (he pins s σ H _ I h) λv s1 ⟨y,H1,I1,r1,q1⟩=>?_) hs;exact x90 I1 hN hi hx r1 (λs2 I2=>⟨_,H1,I2,q1⟩) hf
def G62(i j:Nat)(ta:TA):TS:=λD σ H=>ta σ H λvs H1=>∃ v w,vs=[v,w]/\D.nx ((σ.set i (some v)).set j (some w)) H1
theorem c22{i j:Nat}{x y:Str}{a b:Ñ}{ta:TA}{px py pt:Pos}{kt k2 pt2}(hc:X.calm=true)(hN:X.N.Nodup)(hi:X.N[i]?=some x)(hj:X.N[j]?=some y)(hij:i≠j)
  (hx:X.env.scope.names.lookup x=some .local) (hy:X.env.scope.names.lookup y=some .local) (ha:PA X [a,b] ta)
  (hw:Ã4 [.Tuple [.Name x px,.Name y py] kt pt] (.Tuple [a,b] k2 pt2) X.env=pure (some [x,y]))
  (hs:swapsWithSole [.Tuple [.Name x px,.Name y py] kt pt] (.Tuple [a,b] k2 pt2) pos.line X.env=pure false:=by rfl) :
  PS X (.Assign [.Tuple [.Name x px,.Name y py] kt pt] (.Tuple [a,b] k2 pt2) pos) (G62 i j ta):=by
 intro pins s σ H D I h;rw[exec_Assign_arm];refine À (Ø9 ?_);rw[hs];refine À (Ë ?_);rw[if_neg (-0)]
 refine À (Tuple_ (thn (ha _ pins s σ H _ I h) λus s1 ⟨vs,H1,I1,r1,q1⟩=>?_));obtain⟨v,w,e1,q1⟩:=q1;subst e1;obtain⟨u1,u2,rfl,rv,rw'⟩:∃ u1 u2,us=[u1,u2]/\RelV v u1/\RelV w u2:=by
  cases r1 with
  |cons p q =>
   cases q with
   |cons p' q' =>
    cases q';exact⟨_,_,rfl,p,p'⟩
 refine À0 ?_ (by show 2<=sizeLine;decide)
 have I2:Inv X pins σ H1 { s1 with heap:=s1.heap.push { cls:=.type "tuple",data:=.seq [u1,u2].toArray } }:=I1.kept (t':=s1.toks) λb o e=>Ä _ e;rw[hw];refine À (Ë ?_);show Ó (Ü X.prog X.w) X.A (do rule "assign.swapped-stores";let items ← unpackItems (.ref s1.heap.objs.size) 2 none;assignInOrder [λv=>bindName X.env y v,λv=>bindName X.env x v] items.reverse;pure Flow.next) _ _ _;refine À (Ð3 (À (unpackItems_tuple (items:=#[u1,u2]) (I.ok.hd hc) (Ï4.new s1.heap _) λh' hx'=>?_)));have I3:=I2.kept (h':=h') (t':=s1.toks) λb o e=>hx' b o (ä (á e)) e;show Ó _ _ (assignInOrder [λv=>bindName X.env y v,λv=>bindName X.env x v] [u2,u1] >>= λ_=>pure Flow.next) _ _ _;refine À (Ù8 (wpAny_bindName (x90 I3 hN hj (.inl hy) rw' (λs2 I4=>?_) (.inr hy))));refine Ù8 (wpAny_bindName (x90 I4 hN hi (.inl hx) rv (λs3 I5=>assignInOrder_nil (Ë ?_)) (.inr hx)));rw[List.set_comm _ _ (Á0 hij)] at I5;exact⟨_,H1,I5,q1⟩
def O32(i:Nat)(te:TE)(ti:TIp):TS:=λD σ H=>∃ x,σ[i]?=some (some x)/\te σ H λy H1=>ti x y H1 λz H2=>D.nx (σ.set i (some z)) H2
def G72(to ti te:TE)(tget:V->V->Hp->VK->Prop)(tip:TIp)(tset:q52):TS:=λD σ H=>to σ H λo H1=>ti σ H1 λi H2=>tget o i H2 λx H3=>te σ H3 λy H4=>tip x y H4 λz H5=>tset o i z H5 λH6=>D.nx σ H6
def O42(X:Cx)(t:V->V->Hp->VK->Prop):Prop :=
 ∀ (pins:List (Æ × Obj)) (s:Å) (σ:St) (H:Hp) (o i:V) (ov iv:Ã) (Q:VK),Inv X pins σ H s->RelV o ov->RelV i iv->t o i H Q ->
  Ó (Ü X.prog X.w) X.A (Ö8 ov iv) (EP X pins σ Q) X.xe s
def ipI(f:Int->Int->Int):TIp:=λx y H Q=>∃ i j,x=.int i/\y=.int j/\Q (.int (f i j)) H
def c32(c:TT)(tb:TS):TS:=λD σ H=>∃ W:Nat->St->Hp->Prop,(∃ m,W m σ H)/\∀ m σ H,W m σ H ->
 c σ H λb H1=>if b=true then ∃ N:St->Hp->Prop,(∀ σ' H',N σ' H'->∃ m',m' < m/\W m' σ' H')/\tb { D with nx:=N,ct:=N,bk:=D.nx } σ H1 else D.nx σ H1
theorem z81{c:Ñ}{body:List Å0}{tc:TT}{tb:TS}(hp:PassesOwn (Ü X.prog X.w) X.A X.env X.xe)(hc:PT X c tc)(hb:PSs X body tb):PS X (.While c body [] pos) (c32 tc tb):=by
 intro pins s σ H D I h;obtain⟨W,⟨m0,w0⟩,turn⟩:=h;refine wpAny_While (codeAny_whileLoop (λn s'=>∃ σ' H',Inv X pins σ' H' s'/\W n σ' H') ?_ m0 ⟨σ,H,I,w0⟩);rintro n s1 ⟨σ1,H1,I1,w1⟩;refine Ç6 hp (thn (hc pins s1 σ1 H1 _ I1 (turn n σ1 H1 w1)) λb s2 ⟨H2,I2,q2⟩=>?_);cases b with
 |true =>
  obtain⟨N,hN,q2⟩:=q2;rw[if_pos rfl];refine Ç6 hp (thn (hb pins s2 σ1 H2 _ I2 q2) λf s3 q3=>?_);cases f with
  |next =>
   obtain⟨σ3,H3,I3,n3⟩:=q3;obtain⟨m',hm,w3⟩:=hN σ3 H3 n3;exact⟨m',hm,σ3,H3,I3,w3⟩
  |cont =>
   obtain⟨σ3,H3,I3,n3⟩:=q3;obtain⟨m',hm,w3⟩:=hN σ3 H3 n3;exact⟨m',hm,σ3,H3,I3,w3⟩
  |brk=>exact q3|ret v=>exact q3
 |false =>
  rw[if_neg Ð];exact Î2 ⟨σ1,H2,I2,q2⟩
end
structure It where
 go:Nat->Hp->Prop
 yld:Nat->Hp->V->Hp->Prop
 stop:Nat->Hp->Prop
def f21(X:Cx)(pins:List (Æ × Obj))(H:Hp)(b:Æ):Prop :=
 H b=none/\b≠X.env.locals/\b ∉ X.fs/\(b∈X.ex∨X.s₀.heap.objs.size<=b)/\(∀ x c,X.env.cells.lookup x=some c->c≠b)/\∀ p∈X.pn++pins,p.1≠b
theorem Inv.y71{X:Cx}{pins:List (Æ × Obj)}{σ:St}{H H':Hp}{s:Å}{b:Æ}(I:Inv X pins σ H s)(hb:s.heap.objs.size<=b)(hn:H' b=none):f21 X pins H' b:=by
 refine⟨hn,Ï1 (Ø I.lt hb),I.F72 hb,.inr (Ò I.sz hb),λx c e z=>?_,λp hp z=>?_⟩
 ·obtain⟨v,q⟩:=I.cell x c e;exact absurd (Ø q.lt (by rw[z];exact hb)) (Â4 _)
 ·exact absurd (Ø (á (I.pin p hp).1) (by rw[z];exact hb)) (Â4 _)
structure Turn(P:Program)(w:World)(K:PySem.W.Frag)(tg:Expr)(J:It)(fp:List Addr)(it:Addr)(tn:Nat->Heap->Prop):Prop where
 mem:it∈fp
 obj:∀ i h,tn i h->∀ b∈fp,∃ o,h.get? b=some o/\∀ v,o.data≠.cell v
 keep:∀ i h h',tn i h->(∀ b∈fp,∀ o,h.get? b=some o->h'.get? b=some o)->tn i h'
 item:∀ (X:Cx),X.prog=P->X.w=w->X.K=K->X.calm=true->∀ (i:Nat) (pins:List (Addr × Obj)) (s:Shared) (σ:St) (H:Hp) (E:Value->Shared->Prop),Inv X pins σ H s->(∀ b∈fp,f21 X pins H b)->tn i s.heap->J.go i H ->
  wpAny (model P w) X.A (pyNext (.ref it)) (λr s1=>∃ u,r=some u /\
   wpAny (model P w) X.A (letOwnedTupleGo tg (.ref it) u) (λ_ s2=>∃ x H',Inv X pins σ H' s2/\RelV x u/\J.yld i H x H'/\tn (i + 1) s2.heap/\∀ b∈fp,H' b=none) E s1) E s
 done:∀ (X:Cx),X.prog=P->X.w=w->X.K=K->X.calm=true->∀ (i:Nat) (pins:List (Addr × Obj)) (s:Shared) (σ:St) (H:Hp) (E:Value->Shared->Prop),Inv X pins σ H s->(∀ b∈fp,f21 X pins H b)->tn i s.heap->J.stop i H ->
  wpAny (model P w) X.A (pyNext (.ref it)) (λr s1=>r=none/\Inv X pins σ H s1) E s
 self:∀ (A:Around) (i:Nat) (s:Shared) (Q:Value->Shared->Prop) (E:Value->Shared->Prop),tn i s.heap->Q (.ref it) s->wpAny (model P w) A (pyIter (.ref it)) Q E s
abbrev TI:=St->Hp->(It->Hp->Prop)->Prop
def PIE(X:Cx)(pins:List (Æ × Obj))(σ:St)(tg:Ñ)(R:It->Hp->Prop)(itv:Ã)(s2:Å):Prop :=
 ∃ (it:Æ) (fp:List Æ) (tn:Nat->ë->Prop) (J:It) (H':Hp),itv=.ref it/\Inv X pins σ H' s2/\Turn X.prog X.w X.K tg J fp it tn/\tn 0 s2.heap/\(∀ b∈fp,f21 X pins H' b)/\R J H'
def PI(X:Cx)(tg iter:Ñ)(wi:TI):Prop :=
 ∀ (pins:List (Æ × Obj)) (s:Å) (σ:St) (H:Hp) (R:It->Hp->Prop),Inv X pins σ H s->wi σ H R ->
  Ó (Ü X.prog X.w) X.A (eval iter X.env) (λv s1=>Ó (Ü X.prog X.w) X.A (pyIter v) (PIE X pins σ tg R) X.xe s1) X.xe s
theorem N21{M:Model}{A:ù}{E:Ã->Å->Prop}{s:Å}{tg:Ñ}{it:Æ}{u:Ã}{o:Obj}{n:String}{vs:Array Ã}{Q:Unit->Å->Prop}(ho:s.heap.get? it=some o)(hc:o.cls=.type n)(hd:o.data=.fields vs)
  (hn:["enumerate","zip","dict_itemiterator","dict_reverseitemiterator","odict_iterator","itertools.zip_longest","itertools.pairwise"].contains n=false) (hQ:Q () s):Ó M A (Ý1 tg (.ref it) u) Q E s:=by
 unfold Ý1;cases tg <;> first
  |exact Ë hQ
  |(cases u <;> first
    |exact Ë hQ
    |(refine À (wpAny_load ho ?_)
      rw[hc,hd];show Ó M A (if (["enumerate","zip","dict_itemiterator","dict_reverseitemiterator","odict_iterator","itertools.zip_longest","itertools.pairwise"].contains n&&vs[0]? == some (Ç8 _))=true then _ else _) Q E s;rw[if_neg (by intro h;rw[hn,Ê5] at h;cases h)]
      exact Ë hQ))
def Itl(K:Á)(a:Æ):It :=
 ⟨λi H=>∃ xs x,SqL K H a xs/\xs[i]?=some x,λi H x H'=>H'=H/\∀ xs,SqL K H a xs->xs[i]?=some x,λi H=>∃ xs,SqL K H a xs/\xs.length<=i⟩
def Itt(K:Á)(a:Æ):It :=
 ⟨λi H=>∃ xs x,SqT K H a xs/\xs[i]?=some x,λi H x H'=>H'=H/\∀ xs,SqT K H a xs->xs[i]?=some x,λi H=>∃ xs,SqT K H a xs/\xs.length<=i⟩
def Itr(lo:Int)(n:Nat):It:=⟨λi _=>i < n,λi H x H'=>H'=H/\x=.int (lo + i),λi _=>n<=i⟩
theorem k51{P:ß}{w:ò}{K:Á}{tg:Ñ}(a it:Æ):Turn P w K tg (Itl K a) [it] it (λi h=>h.IsListIter it a i) where
 mem:=by simp
 obj:=λi h st b hb=>by
  have e:b=it:=by simpa using hb
  subst e;obtain⟨o,e,c,d⟩:=st;exact⟨o,e,λv z=>by rw[d] at z;cases z⟩
 keep:=λi h h' st k=>st.at λo e=>k it (by simp) o e
 item:=by
  intro X hP hw hK hc i pins s σ H E I hf st hg;subst hP hw hK;obtain⟨xs,x,hq,hx⟩:=hg;obtain⟨its,rv,p,hz⟩:=I.list hq;obtain⟨u,hu,ru⟩:=rv.get hx;obtain⟨f0,f1,f2,f3,f4,f5⟩:=hf it (by simp)
  refine wpAny_pyNext_list_item st p.isList (x:=u) (by simpa using hu) λh' st' sb=>?_
  have I1:Inv X pins σ H { s with heap:=h' }:=I.turned (t':=s.toks) (λb o hb e=>(sb.2 b hb).trans e) f0 f1 f3 f4 f5;obtain⟨o,e,c,d⟩:=id st';exact⟨u,rfl,N21 (s:={ s with heap:=h' }) e c d (-0) ⟨x,H,I1,ru,⟨rfl,λys hy=>by rw[I.Y40 hy hq];exact hx⟩,st',λb hb=>(hf b hb).1⟩⟩
 done:=by
  intro X hP hw hK hc i pins s σ H E I hf st hg;subst hP hw hK;obtain⟨xs,hq,hx⟩:=hg;obtain⟨its,rv,p,hz⟩:=I.list hq;obtain⟨f0,f1,f2,f3,f4,f5⟩:=hf it (by simp)
  have hl:=rv.length;exact wpAny_pyNext_list_end (I.ok.hd hc) st p.isList (by simp;omega) λh' eb=>⟨rfl,I.turned (t':=s.toks) (λb o hb e=>eb b o hb e) f0 f1 f3 f4 f5⟩
 self:=λ_ _ _ _ _ st h=>wpAny_pyIter_listiter st h
theorem f31{P:ß}{w:ò}{K:Á}{tg:Ñ}(a it:Æ):Turn P w K tg (Itt K a) [it] it (λi h=>h.IsTupleIter it a i) where
 mem:=by simp
 obj:=λi h st b hb=>by
  have e:b=it:=by simpa using hb
  subst e;obtain⟨o,e,c,d⟩:=st;exact⟨o,e,λv z=>by rw[d] at z;cases z⟩
 keep:=λi h h' st k=>st.at λo e=>k it (by simp) o e
 item:=by
  intro X hP hw hK hc i pins s σ H E I hf st hg;subst hP hw hK;obtain⟨xs,x,hq,hx⟩:=hg;obtain⟨its,rv,p,hz⟩:=I.tuple hq;obtain⟨u,hu,ru⟩:=rv.get hx;obtain⟨f0,f1,f2,f3,f4,f5⟩:=hf it (by simp)
  refine wpAny_pyNext_tuple_item st (show s.heap.IsTuple a its.toArray from p) (x:=u) (by simpa using hu) λh' st' sb=>?_
  have I1:Inv X pins σ H { s with heap:=h' }:=I.turned (t':=s.toks) (λb o hb e=>(sb.2 b hb).trans e) f0 f1 f3 f4 f5;obtain⟨o,e,c,d⟩:=id st';exact⟨u,rfl,N21 (s:={ s with heap:=h' }) e c d (-0) ⟨x,H,I1,ru,⟨rfl,λys hy=>by rw[I.L60 hy hq];exact hx⟩,st',λb hb=>(hf b hb).1⟩⟩
 done:=by
  intro X hP hw hK hc i pins s σ H E I hf st hg;subst hP hw hK;obtain⟨xs,hq,hx⟩:=hg;obtain⟨its,rv,p,hz⟩:=I.tuple hq;obtain⟨f0,f1,f2,f3,f4,f5⟩:=hf it (by simp)
  have hl:=rv.length;exact wpAny_pyNext_tuple_end (I.ok.hd hc) st (show s.heap.IsTuple a its.toArray from p) (by simp;omega) λh' eb=>⟨rfl,I.turned (t':=s.toks) (λb o hb e=>eb b o hb e) f0 f1 f3 f4 f5⟩
 self:=λ_ _ _ _ _ st h=>wpAny_pyIter_tupleiter st h
theorem f41{P:ß}{w:ò}{K:Á}{tg:Ñ}(it:Æ)(lo:Int)(n:Nat):Turn P w K tg (Itr lo n) [it] it (λi h=>IsRangeIter h it (lo + (i:Nat) * 1) ((n:Int) - (i:Nat)) 1) where
 mem:=by simp
 obj:=λi h st b hb=>by
  have e:b=it:=by simpa using hb
  subst e;exact⟨_,st,λv z=>by
   have z':Data.fields _=Data.cell v:=z;cases z'⟩
 keep:=λi h h' st k=>k it (by simp) _ st
 item:=by
  intro X hP hw hK hc i pins s σ H E I hf st hg;subst hP hw hK;obtain⟨f0,f1,f2,f3,f4,f5⟩:=hf it (by simp)
  have W:=Walks.range (prog:=X.prog) (w:=X.w) (I.ok.hd hc) it lo 1 n;refine W.item i s _ _ hg st λv h' tk hv st' kk=>?_;obtain⟨t,rfl⟩:=hv;have I1:Inv X pins σ H { s with heap:=h',toks:=tk }:=I.turned (λb o hb e=>kk b o (by simpa using hb) e) f0 f1 f3 f4 f5
  refine⟨_,rfl,N21 (s:={ s with heap:=h',toks:=tk }) (n:="range_iterator") st' rfl rfl (-0) ⟨.int (lo + i),H,I1,⟨t,?_⟩,⟨rfl,rfl⟩,st',λb hb=>(hf b hb).1⟩⟩
  rw[Int.mul_one]
 done:=by
  intro X hP hw hK hc i pins s σ H E I hf st hg;subst hP hw hK;obtain⟨f0,f1,f2,f3,f4,f5⟩:=hf it (by simp)
  exact wpAny_pyNext_range_end (I.ok.hd hc) st (by have:n<=i:=hg;omega) λh' eb=>⟨rfl,I.turned (t':=s.toks) (λb o hb e=>eb b o hb e) f0 f1 f3 f4 f5⟩
 self:=λ_ _ _ _ _ st h=>wpAny_pyIter_rangeiter st h
section
variable {X:Cx}{tg:Ñ}
def s22(K:Á)(tl:TE):TI:=λσ H R=>tl σ H λx H1=>∃ a,x=.ref a/\(∃ xs,SqL K H1 a xs)/\R (Itl K a) H1
def G82(K:Á)(tl:TE):TI:=λσ H R=>tl σ H λx H1=>∃ a,x=.ref a/\(∃ xs,SqT K H1 a xs)/\R (Itt K a) H1
theorem S60{l:Ñ}{tl:TE}(hl:PE X l tl):PI X tg l (s22 X.K tl):=by
 intro pins s σ H R I h;refine thn (hl pins s σ H _ I h) λv s1 ⟨x,H1,I1,r1,q1⟩=>?_;obtain⟨a,e,⟨xs,hq⟩,q⟩:=q1;subst e;cases r1;obtain⟨its,rv,p,hz⟩:=I1.list hq;refine Ñ8 p.isList ?_;refine⟨s1.heap.objs.size,[s1.heap.objs.size],_,_,H1,rfl,I1.kept (t':=s1.toks) λb o e=>Ä _ e,k51 a _,⟨_,Ï _ rfl,rfl,rfl⟩,λb hb=>?_,q⟩;have e:b=s1.heap.objs.size:=by simpa using hb
 subst e;exact I1.y71 (Ì _) (I1.hok.fresh (Ì _))
theorem J21{l:Ñ}{tl:TE}(hl:PE X l tl):PI X tg l (G82 X.K tl):=by
 intro pins s σ H R I h;refine thn (hl pins s σ H _ I h) λv s1 ⟨x,H1,I1,r1,q1⟩=>?_;obtain⟨a,e,⟨xs,hq⟩,q⟩:=q1;subst e;cases r1;obtain⟨its,rv,p,hz⟩:=I1.tuple hq;refine Ð4 (show s1.heap.IsTuple a its.toArray from p) ?_;refine⟨s1.heap.objs.size,[s1.heap.objs.size],_,_,H1,rfl,I1.kept (t':=s1.toks) λb o e=>Ä _ e,f31 a _,⟨_,Ï _ rfl,rfl,rfl⟩,λb hb=>?_,q⟩;have e:b=s1.heap.objs.size:=by simpa using hb
 subst e;exact I1.y71 (Ì _) (I1.hok.fresh (Ì _))
theorem Y60{pins:List (Æ × Obj)}{σ:St}{H:Hp}{s:Å}{R:It->Hp->Prop}{E:Ã->Å->Prop}{lo hi:Int}{t u v:Tok}{tk:Nat}(I:Inv X pins σ H s)(h1:-(2 ^ 62)<=lo)(h2:lo < 2 ^ 62)(h3:-(2 ^ 62)<=hi)(h4:hi < 2 ^ 62)
  (q:R (Itr lo (hi - lo).toNat) H):Ó (Ü X.prog X.w) X.A (pyIter (.ref s.heap.objs.size)) (PIE X pins σ tg R) E { s with heap:=s.heap.push { cls:=.type "range",data:=.fields #[.int lo t,.int hi u,.int 1 v] },toks:=tk }:=by
 refine wpAny_pyIter_range (Ô0.new ..) (small_one h1 h2 h3 h4) ?_;have I1:Inv X pins σ H { s with heap:=s.heap.push { cls:=.type "range",data:=.fields #[.int lo t,.int hi u,.int 1 v] },toks:=tk }:=I.kept λb o e=>Ä _ e;refine⟨(s.heap.push { cls:=.type "range",data:=.fields #[.int lo t,.int hi u,.int 1 v] }).objs.size,[(s.heap.push { cls:=.type "range",data:=.fields #[.int lo t,.int hi u,.int 1 v] }).objs.size],_,_,H,rfl,
  I1.kept (t':=tk) λb o e=>Ä _ e,f41 _ lo (hi - lo).toNat,?_,λb hb=>?_,q⟩
 ·have e1:lo + ((0:Nat):Int) * 1=lo:=by simp
  have e2:(((hi - lo).toNat:Nat):Int) - ((0:Nat):Int)=Â6 lo hi 1:=by rw[rangeSize_one];split <;> omega
  show IsRangeIter _ _ (lo + ((0:Nat):Int) * 1) ((((hi - lo).toNat:Nat):Int) - ((0:Nat):Int)) 1;rw[e1,e2];exact Ï _ rfl
 ·have e:b=(s.heap.push { cls:=.type "range",data:=.fields #[.int lo t,.int hi u,.int 1 v] }).objs.size:=by simpa using hb
  subst e;exact I1.y71 (Ì _) (I1.hok.fresh (Ì _))
def s32(ta:TA):TI:=λσ H R=>ta σ H λvs H1=>∃ j:Int,vs=[.int j]/\-(2 ^ 62)<=j/\j < 2 ^ 62/\R (Itr 0 j.toNat) H1
def s42(ta:TA):TI:=λσ H R=>ta σ H λvs H1=>∃ i j:Int,vs=[.int i,.int j]/\(-(2 ^ 62)<=i/\i < 2 ^ 62/\-(2 ^ 62)<=j/\j < 2 ^ 62)/\R (Itr i (j - i).toNat) H1
theorem L70{a:Ñ}{ta:TA}{p pos:Pos}(hg:Gl X "range")(hm:X.mg "range"=none)(ha:PA X [a] ta)(hs:û [a] X.env=[(false,eval a X.env)]:=by rfl):PI X tg (.Call (.Name "range" p) [a] [] pos) (s32 ta):=by
 intro pins s σ H R I h;refine Call_ (w10 I hg hm boot_range (Á4 (thn (ha pos pins s σ H _ I h) λus s1 ⟨vs,H1,I1,r1,q1⟩=>?_) hs rfl));obtain⟨j,e,q1,q2,q⟩:=q1;subst e;cases r1 with
 |cons r rr =>
  cases rr;obtain⟨t,rfl⟩:=r;exact call_range_1 (Y60 I1 ∅ ∅ q1 q2 (by simpa using q))
theorem k61{a b:Ñ}{ta:TA}{p pos:Pos}(hg:Gl X "range")(hm:X.mg "range"=none)(ha:PA X [a,b] ta)(hs:û [a,b] X.env=[(false,eval a X.env),(false,eval b X.env)]:=by rfl)(hs2:û [b] X.env=[(false,eval b X.env)]:=by rfl) :
  PI X tg (.Call (.Name "range" p) [a,b] [] pos) (s42 ta):=by
 intro pins s σ H R I h;refine Call_ (w10 I hg hm boot_range (Á4 (thn (ha pos pins s σ H _ I h) λus s1 ⟨vs,H1,I1,r1,q1⟩=>?_) (by rw[hs,hs2]) (by rw[hs2];rfl)))
 obtain⟨i,j,e,⟨q1,q2,q3,q4⟩,q⟩:=q1;subst e;cases r1 with
 |cons r rr =>
  cases rr with
  |cons r' rr =>
   cases rr;obtain⟨t,rfl⟩:=r;obtain⟨t',rfl⟩:=r';exact call_range_2 (Y60 I1 q1 q2 q3 q4 q)
def G92(wi:TI)(g:TG)(tb:TS):TS:=λD σ H=>wi σ H λJ H1=>∃ W:Nat->Nat->St->Hp->Prop,(∃ m,W 0 m σ H1)/\∀ i m σ H,W i m σ H ->
 (J.stop i H/\D.nx σ H)∨(J.go i H/\∃ N:St->Hp->Prop,(∀ σ' H',N σ' H'->∃ m',m' < m/\W (i + 1) m' σ' H')/\∀ x H',J.yld i H x H'->g x σ H' λσ2 H2=>tb { D with nx:=N,ct:=N,bk:=D.nx } σ2 H2)
def z10(fp:List Æ)(h:ë):List (Æ × Obj):=fp.filterMap λb=>(h.get? b).map λo=>(b,o)
theorem k20{fp:List Æ}{h:ë}{b:Æ}{o:Obj}(hb:b∈fp)(e:h.get? b=some o):(b,o)∈z10 fp h:=Õ8.mpr ⟨b,hb,by rw[e];rfl⟩
theorem L80{fp:List Æ}{h:ë}{p:Æ × Obj}(hp:p∈z10 fp h):p.1∈fp/\h.get? p.1=some p.2:=by
 obtain⟨b,hb,e⟩:=Õ8.mp hp;cases q:h.get? b with
 |none=>rw[q] at e;cases e
 |some o =>
  rw[q] at e;have e':(b,o)=p:=Á2 e;subst e';exact⟨hb,q⟩
theorem Inv.pinned{pins:List (Æ × Obj)}{σ:St}{H:Hp}{s:Å}{fp:List Æ}(I:Inv X pins σ H s)(hf:∀ b∈fp,f21 X pins H b)(ho:∀ b∈fp,∃ o,s.heap.get? b=some o/\∀ v,o.data≠.cell v):Inv X (pins++z10 fp s.heap) σ H s :=
 I.y90 λp hp=>(À5.mp hp).elim (λz=>I.pin p (ã _ z)) λz=>by
  obtain⟨hb,e⟩:=L80 z;obtain⟨f0,f1,f2,_⟩:=hf p.1 hb;obtain⟨o,e',d⟩:=ho p.1 hb;rw[e] at e';cases e';exact⟨e,f0,f1,f2,d⟩
theorem Inv.G40{pins pl:List (Æ × Obj)}{σ:St}{H:Hp}{s:Å}(I:Inv X (pins++pl) σ H s):Inv X pins σ H s:=I.y90 λp hp=>I.pin p (ã _ (Ã7 _ hp))
theorem J31{iter:Ñ}{body:List Å0}{wi:TI}{g:TG}{tb:TS}{pos:Pos}(hp:PassesOwn (Ü X.prog X.w) X.A X.env X.xe)(hc:X.calm=true)(hi:PI X tg iter wi)(hg:PG X tg g)(hb:PSs X body tb)
  (hs:∀ x,Ç9 iter X.env x=pure x:=by intro _;rfl):PS X (.For tg iter body [] pos) (G92 wi g tb):=by
 intro pins s σ H D I h;refine wpAny_For (thn (hi pins s σ H _ I h) λv s1 h1=>thn h1 λitv s2 h2=>?_) hs;obtain⟨it,fp,tn,J,H2,e,I2,T,st2,f2,W,⟨m0,w0⟩,turn⟩:=h2;subst e;have stat:∀ {H':Hp},(∀ b∈fp,H' b=none)->∀ b∈fp,f21 X pins H' b:=λhn b hb=>⟨hn b hb,(f2 b hb).2⟩;refine codeAny_forLoop_any (λn s'=>∃ i σ' H',Inv X pins σ' H' s'/\tn i s'.heap/\(∀ b∈fp,H' b=none)/\W i n σ' H') ?_ m0 ⟨0,σ,H2,I2,st2,λb hb=>(f2 b hb).1,w0⟩;rintro n s3 ⟨i,σ3,H3,I3,st3,fr3,w3⟩;rcases turn i n σ3 H3 w3 with ⟨stop,qn⟩ | ⟨go,N,hN,step⟩
 ·refine Ç6 hp (thn (T.done X rfl rfl rfl hc i pins s3 σ3 H3 X.xe I3 (stat fr3) st3 stop) λr s4 ⟨hr,I4⟩=>?_);subst hr;exact Î2 ⟨σ3,H3,I4,qn⟩
 ·refine Ç6 hp (thn (T.item X rfl rfl rfl hc i pins s3 σ3 H3 X.xe I3 (stat fr3) st3 go) λr s4 ⟨u,hr,h4⟩=>?_);subst hr;refine Ç6 hp (thn h4 λ_ s5 ⟨x,H5,I5,r5,y5,st5,fr5⟩=>?_);have I5':=I5.pinned (stat fr5) (T.obj _ _ st5);refine Ç6 hp (thn (hg _ s5 σ3 H5 x u _ I5' r5 (step x H5 y5)) λ_ s6 ⟨σ6,H6,I6,q6⟩=>?_);refine Ç6 hp (thn (hb _ s6 σ6 H6 _ I6 q6) λf s7 q7=>?_);have again:∀ {σ7:St}{H7:Hp},Inv X (pins++z10 fp s5.heap) σ7 H7 s7->N σ7 H7->∃ m,m < n/\∃ i σ' H',Inv X pins σ' H' s7/\tn i s7.heap/\(∀ b∈fp,H' b=none)/\W i m σ' H':=λ{σ7 H7} I7 n7=>by
   obtain⟨m',hm,w7⟩:=hN σ7 H7 n7;refine⟨m',hm,i + 1,σ7,H7,I7.G40,T.keep _ _ _ st5 λb hb o e=>(I7.pin (b,o) (ã _ (ã _ (k20 hb e)))).1,λb hb=>?_,w7⟩;obtain⟨o,e,d⟩:=T.obj _ _ st5 b hb;exact(I7.pin (b,o) (ã _ (ã _ (k20 hb e)))).2.1
  cases f with
  |next=>obtain⟨σ7,H7,I7,n7⟩:=q7;exact again I7 n7
  |cont=>obtain⟨σ7,H7,I7,n7⟩:=q7;exact again I7 n7
  |brk=>obtain⟨σ7,H7,I7,q7⟩:=q7;exact⟨σ7,H7,I7.G40,q7⟩
  |ret v=>obtain⟨x7,σ7,H7,I7,r7,q7⟩:=q7;exact⟨x7,σ7,H7,I7.G40,r7,q7⟩
end
abbrev R2:=V->V->Hp->VK->Prop
def OpR(X:Cx)(f:Ã->Ã->Sem Ã)(r:R2):Prop :=
 ∀ (pins:List (Æ × Obj)) (s:Å) (σ:St) (H:Hp) (x y:V) (v u:Ã) (Q:VK),Inv X pins σ H s->RelV x v->RelV y u->r x y H Q ->
  Ó (Ü X.prog X.w) X.A (f v u) (EP X pins σ Q) X.xe s
def UnR(X:Cx)(f:Ã->Sem Ã)(r:V->Hp->VK->Prop):Prop :=
 ∀ (pins:List (Æ × Obj)) (s:Å) (σ:St) (H:Hp) (x:V) (v:Ã) (Q:VK),Inv X pins σ H s->RelV x v->r x H Q ->
  Ó (Ü X.prog X.w) X.A (f v) (EP X pins σ Q) X.xe s
def e60(X:Cx)(f:Ã)(r:List V->Hp->VK->Prop):Prop :=
 ∀ (pins:List (Æ × Obj)) (s:Å) (σ:St) (H:Hp) (xs:List V) (us:List Ã) (Q:VK),Inv X pins σ H s->Vals xs us->r xs H Q ->
  Ó (Ü X.prog X.w) X.A (call f us) (EP X pins σ Q) X.xe s
def tOp(r:R2)(ta tb:TE):TE:=λσ H Q=>ta σ H λx H1=>tb σ H1 λy H2=>r x y H2 Q
def tUn(r:V->Hp->VK->Prop)(ta:TE):TE:=λσ H Q=>ta σ H λx H1=>r x H1 Q
def rI(C:Int->Int->Prop)(g:Int->Int->V):R2:=λx y H Q=>∃ i j,x=.int i/\y=.int j/\C i j/\Q (g i j) H
def rI0(g:Int->Int->V):R2:=λx y H Q=>∃ i j,x=.int i/\y=.int j/\Q (g i j) H
def rU(g:Int->V):V->Hp->VK->Prop:=λx H Q=>∃ i,x=.int i/\Q (g i) H
section
variable {X:Cx}{a b c:Ñ}{ta tb tc:TE}{pos:Pos}
theorem s52(ha:PE X a ta)(hb:PE X b tb){pins:List (Æ × Obj)}{s:Å}{σ:St}{H:Hp}{R:V->V->Hp->Prop}(I:Inv X pins σ H s)
  (h:ta σ H λx H1=>tb σ H1 λy H2=>R x y H2) {Q:Ã->Å->Prop}{f:Ã->Ã->Sem Ã}
  (hf:∀ v u s2 x y H2,Inv X pins σ H2 s2->RelV x v->RelV y u->R x y H2->Ó (Ü X.prog X.w) X.A (f v u) Q X.xe s2) :
  Ó (Ü X.prog X.w) X.A (eval a X.env) (λv s₁=>Ó (Ü X.prog X.w) X.A (eval b X.env) (λu s₂=>Ó (Ü X.prog X.w) X.A (f v u) Q X.xe s₂) X.xe s₁) X.xe s:=by
 refine thn (ha pins s σ H _ I h) λv s1 ⟨x,H1,I1,r1,q1⟩=>?_;refine thn (hb pins s1 σ H1 _ I1 q1) λu s2 ⟨y,H2,I2,r2,q2⟩=>?_;exact hf v u s2 x y H2 I2 r1 r2 q2
theorem z91{op:Operator}{r:R2}(ho:OpR X (Ä7 op) r)(ha:PE X a ta)(hb:PE X b tb):PE X (.BinOp a op b pos) (tOp r ta tb):=by
 intro pins s σ H Q I h;exact wpAny_BinOp (s52 ha hb I h λv u s2 x y H2 I2 rx ry q=>ho pins s2 σ H2 x y v u Q I2 rx ry q)
theorem s62{op:UnaryOp}{r:V->Hp->VK->Prop}(ho:UnR X (unaryOp op) r)(ha:PE X a ta):PE X (.UnaryOp op a pos) (tUn r ta):=by
 intro pins s σ H Q I h;exact UnaryOp_ (thn (ha pins s σ H _ I h) λv s1 ⟨x,H1,I1,r1,q1⟩=>ho pins s1 σ H1 x v Q I1 r1 q1)
theorem opI{f:Ã->Ã->Sem Ã}{C:Int->Int->Prop}{g:Int->Int->Int}
  (rule:∀ (i j:Int) (t u:Tok) (s:Å) (Q:Ã->Å->Prop) (E:Ã->Å->Prop),C i j->Q (.int (g i j) s.toks) { s with toks:=s.toks + 1 }->Ó (Ü X.prog X.w) X.A (f (.int i t) (.int j u)) Q E s) :
  OpR X f (rI C λi j=>.int (g i j)):=by
 intro pins s σ H x y v u Q I rx ry h;obtain⟨i,j,rfl,rfl,hc,q⟩:=h;obtain⟨t,rfl⟩:=rx;obtain⟨t',rfl⟩:=ry;exact rule i j t t' s _ _ hc ⟨.int (g i j),H,I.tok _,⟨_,rfl⟩,q⟩
theorem C72{f:Ã->Ã->Sem Ã}{g:Int->Int->Int}
  (rule:∀ (i j:Int) (t u:Tok) (s:Å) (Q:Ã->Å->Prop) (E:Ã->Å->Prop),Q (.int (g i j) s.toks) { s with toks:=s.toks + 1 }->Ó (Ü X.prog X.w) X.A (f (.int i t) (.int j u)) Q E s) :
  OpR X f (rI0 λi j=>.int (g i j)):=by
 intro pins s σ H x y v u Q I rx ry h;obtain⟨i,j,rfl,rfl,q⟩:=h;obtain⟨t,rfl⟩:=rx;obtain⟨t',rfl⟩:=ry;exact rule i j t t' s _ _ ⟨.int (g i j),H,I.tok _,⟨_,rfl⟩,q⟩
theorem s72{f:Ã->Ã->Sem Ã}{g:Int->Int->Bool}
  (rule:∀ (i j:Int) (t u:Tok) (s:Å) (Q:Ã->Å->Prop) (E:Ã->Å->Prop),Q (.bool (g i j)) s->Ó (Ü X.prog X.w) X.A (f (.int i t) (.int j u)) Q E s) :
  OpR X f (rI0 λi j=>.bl (g i j)):=by
 intro pins s σ H x y v u Q I rx ry h;obtain⟨i,j,rfl,rfl,q⟩:=h;obtain⟨t,rfl⟩:=rx;obtain⟨t',rfl⟩:=ry;exact rule i j t t' s _ _ ⟨.bl (g i j),H,I,rfl,q⟩
def H02(i j:Int):Prop:=0<=j/\j<=1000000/\i.natAbs < 2 ^ 64
theorem c42:OpR X (Ä7 .Add) (rI0 λi j=>.int (i + j)):=C72 λ_ _ _ _ _ _ _ q=>add_int q
theorem c52:OpR X (Ä7 .Sub) (rI0 λi j=>.int (i - j)):=C72 λ_ _ _ _ _ _ _ q=>sub_int q
theorem c62:OpR X (binaryOp .Mod) (rI (λ_ j=>0 < j) λi j=>.int (i % j)):=opI λi j _ _ _ _ _ hc q=>by
 have h1:(0:Int) < j:=hc;exact mod_int' ∅ (by rw[Int.fmod_eq_emod_of_nonneg i ∅];exact q)
theorem c72:OpR X (Ä7 .Pow) (rI H02 λi j=>.int (i ^ j.toNat)):=opI λ_ _ _ _ _ _ _ hc q=>pow_int_small hc.1 hc.2.1 hc.2.2 q
theorem unI{f:Ã->Sem Ã}{g:Int->Int}
  (rule:∀ (i:Int) (t:Tok) (s:Å) (Q:Ã->Å->Prop) (E:Ã->Å->Prop),Q (.int (g i) s.toks) { s with toks:=s.toks + 1 }->Ó (Ü X.prog X.w) X.A (f (.int i t)) Q E s) :
  UnR X f (rU λi=>.int (g i)):=by
 intro pins s σ H x v Q I rx h;obtain⟨i,rfl,q⟩:=h;obtain⟨t,rfl⟩:=rx;exact rule i t s _ _ ⟨.int (g i),H,I.tok _,⟨_,rfl⟩,q⟩
theorem c82:UnR X (unaryOp .USub) (rU λi=>.int (-i)):=unI λ_ _ _ _ _ q=>neg_int q
theorem s82:OpR X (ÿ .LtE) (rI0 λi j=>.bl (decide (i<=j))):=s72 λ_ _ _ _ _ _ _ q=>le_int q
theorem s92:OpR X (ÿ .Gt) (rI0 λi j=>.bl (decide (j < i))):=s72 λ_ _ _ _ _ _ _ q=>gt_int q
theorem t02:OpR X (ÿ .GtE) (rI0 λi j=>.bl (decide (j<=i))):=s72 λ_ _ _ _ _ _ _ q=>ge_int q
theorem k71{op:CmpOp}{r:R2}(ho:OpR X (ÿ op) r)(ha:PE X a ta)(hb:PE X b tb)(hm:behindInMarks op b=false):PE X (.Compare a [op] [b] pos) (tOp r ta tb):=by
 intro pins s σ H Q I h;exact wpAny_Compare1 (s52 ha hb I h λv u s2 x y H2 I2 rx ry q=>ho pins s2 σ H2 x y v u Q I2 rx ry q) hm
def c92(t:TE):TT:=λσ H Q=>t σ H λx H'=>∃ k,x=.bl k/\Q k H'
theorem k81{op:CmpOp}{r:R2}(ho:OpR X (ÿ op) r)(ha:PE X a ta)(hb:PE X b tb)(hm:behindInMarks op b=false):PT X (.Compare a [op] [b] pos) (c92 (tOp r ta tb)):=by
 intro pins s σ H Q I h;refine wpAny_isTrue_Compare1 (thn (ha pins s σ H _ I h) λv s1 ⟨x,H1,I1,r1,q1⟩=>thn (hb pins s1 σ H1 _ I1 q1) λu s2 ⟨y,H2,I2,r2,q2⟩ =>
  thn (ho pins s2 σ H2 x y v u _ I2 r1 r2 q2) λc s3 ⟨z,H3,I3,r3,k,e,q3⟩=>?_) hm
 subst e;cases r3;exact À3 ⟨H3,I3,q3⟩
def k91(r r':R2)(ta tb tc:TE):TE:=λσ H Q=>ta σ H λx H1=>tb σ H1 λy H2=>r x y H2 λz H3=>∃ k,z=.bl k /\
 (if k=true then tc σ H3 λw' H4=>r' y w' H4 Q else Q (.bl false) H3)
theorem A01{op op':CmpOp}{r r':R2}(ho:OpR X (ÿ op) r)(ho':OpR X (ÿ op') r')(ha:PE X a ta)(hb:PE X b tb)(hc:PE X c tc)
  (hm:lastMarks [op,op'] [b,c]=false:=by with_unfolding_all rfl):PE X (.Compare a [op,op'] [b,c] pos) (k91 r r' ta tb tc):=by
 intro pins s σ H Q I h;refine Compare_chain (thn (ha pins s σ H _ I h) λv s1 ⟨x,H1,I1,r1,q1⟩=>chain_link (thn (hb pins s1 σ H1 _ I1 q1) λu s2 ⟨y,H2,I2,r2,q2⟩ =>
  thn (ho pins s2 σ H2 x y v u _ I2 r1 r2 q2) λd s3 ⟨z,H3,I3,r3,k,e,q3⟩=>?_)) hm
 subst e;cases r3;refine À3 ?_;cases k with
 |false=>exact ite_ff ⟨.bl false,H3,I3,rfl,q3⟩|true=>exact ite_tt (chain_last (thn (hc pins s3 σ H3 _ I3 q3) λw' s4 ⟨z',H4,I4,r4,q4⟩=>ho' pins s4 σ H4 y z' u w' Q I4 r2 r4 q4))
theorem A11{op op':CmpOp}{r r':R2}(ho:OpR X (ÿ op) r)(ho':OpR X (ÿ op') r')(ha:PE X a ta)(hb:PE X b tb)(hc:PE X c tc)
  (hm:lastMarks [op,op'] [b,c]=false:=by with_unfolding_all rfl):PT X (.Compare a [op,op'] [b,c] pos) (c92 (k91 r r' ta tb tc)):=by
 intro pins s σ H Q I h;refine isTrue_chain (thn (ha pins s σ H _ I h) λv s1 ⟨x,H1,I1,r1,q1⟩=>test_link (thn (hb pins s1 σ H1 _ I1 q1) λu s2 ⟨y,H2,I2,r2,q2⟩ =>
  thn (ho pins s2 σ H2 x y v u _ I2 r1 r2 q2) λd s3 ⟨z,H3,I3,r3,k,e,q3⟩=>?_)) hm
 subst e;cases r3;refine À3 ?_;cases k with
 |false =>
  obtain⟨k',e',q'⟩:=q3;cases e';exact ite_ff ⟨H3,I3,q'⟩
 |true =>
  refine ite_tt (test_last (thn (hc pins s3 σ H3 _ I3 q3) λw' s4 ⟨z',H4,I4,r4,q4⟩=>thn (ho' pins s4 σ H4 y z' u w' _ I4 r2 r4 q4) λd' s5 ⟨z2,H5,I5,r5,k2,e2,q5⟩=>?_));subst e2;cases r5;exact À3 ⟨H5,I5,q5⟩
theorem Y70:(sizeLine:Nat) < 2 ^ 63:=by rw[Â8];decide
theorem vals1{x:V}{us:List Ã}(r:Vals [x] us):∃ u,us=[u]/\RelV x u:=by
 cases r with
 |cons r1 r2=>cases r2;exact⟨_,rfl,r1⟩
theorem vals2{x y:V}{us:List Ã}(r:Vals [x,y] us):∃ u w',us=[u,w']/\RelV x u/\RelV y w':=by
 cases r with
 |cons r1 r2 =>
  cases r2 with
  |cons r3 r4=>cases r4;exact⟨_,_,rfl,r1,r3⟩
theorem l01(hc:X.calm=true):e60 X (.builtin "max") (λxs H Q=>∃ i j,xs=[.int i,.int j]/\Q (.int (if j > i then j else i)) H):=by
 intro pins s σ H xs us Q I r h;obtain⟨i,j,rfl,q⟩:=h;obtain⟨u,w',rfl,⟨t,rfl⟩,⟨t',rfl⟩⟩:=vals2 r;refine max_two_ints (I.ok.hd hc) λh' tk k=>⟨_,H,I.kept k,?_,q⟩;by_cases hj:j > i
 ·rw[if_pos hj,if_pos hj];exact⟨_,rfl⟩
 ·rw[if_neg hj,if_neg hj];exact⟨_,rfl⟩
theorem l11(hc:X.calm=true):e60 X (.builtin "min") (λxs H Q=>∃ i j,xs=[.int i,.int j]/\Q (.int (if j < i then j else i)) H):=by
 intro pins s σ H xs us Q I r h;obtain⟨i,j,rfl,q⟩:=h;obtain⟨u,w',rfl,⟨t,rfl⟩,⟨t',rfl⟩⟩:=vals2 r;refine min_two_ints (I.ok.hd hc) λh' tk k=>⟨_,H,I.kept k,?_,q⟩;by_cases hj:j < i
 ·rw[if_pos hj,if_pos hj];exact⟨_,rfl⟩
 ·rw[if_neg hj,if_neg hj];exact⟨_,rfl⟩
theorem L90:e60 X (.type "int") (λxs H Q=>(∃ i,xs=[.int i]/\Q (.int i) H)∨∃ k,xs=[.bl k]/\Q (.int (if k then 1 else 0)) H):=by
 intro pins s σ H xs us Q I r h;rcases h with ⟨i,rfl,q⟩ | ⟨k,rfl,q⟩
 ·obtain⟨u,rfl,t,rfl⟩:=vals1 r;exact call_int_int ⟨.int i,H,I,⟨_,rfl⟩,q⟩
 ·obtain⟨u,rfl,r1⟩:=vals1 r;cases r1;exact call_int_bool ⟨.int (if k then 1 else 0),H,I.tok _,⟨_,rfl⟩,q⟩
end
structure x40(k:Nat)(A:Around):Prop where
 hd:A.handled=none
 dp:A.depth + 3 * k + 5 < recursionLimit
 un:A.units + 16 * k + 200 < cLine
theorem x40.deeper{k:Nat}{A:ù}(r:x40 (k + 1) A)(env:Env):x40 k (A.deeper env) :=
 ⟨r.hd,by have:=r.dp;show A.depth + 1 + 3 * k + 5 < _;omega,by have:=r.un;show A.units + 3 + 16 * k + 200 < _;omega⟩
theorem x40.depth{k:Nat}{A:ù}(r:x40 k A):A.depth < recursionLimit:=by have:=r.dp;omega
theorem x40.units{k:Nat}{A:ù}(r:x40 k A):A.units + 64 < cLine:=by have:=r.un;omega
def C82:TA:=λ_ H Q=>Q [] H
def d02(ta:TE)(tr:TA):TA:=λσ H Q=>ta σ H λx H1=>tr σ H1 λxs H2=>Q (x::xs) H2
section
variable {X:Cx}{e:Ñ}{es:List Ñ}{te:TE}{t:TA}{pos:Pos}
theorem r50:PA X [] C82:=λ_ _ _ _ H Q I h=>Ï5 ⟨[],H,I,.nil,h⟩
theorem e00(ha:PE X e te)(hr:PA X es t)(hs:û (e::es) X.env=(false,eval e X.env)::û es X.env:=by rfl):PA X (e::es) (d02 te t):=by
 intro pos pins s σ H Q I h;rw[hs];show Ó _ _ (spliced ((false,eval e X.env)::Ó9 pos (û es X.env))) _ _ s;refine Õ6 (thn (ha pins s σ H _ I h) λu s1 ⟨x,H1,I1,r1,q1⟩=>?_);exact thn (hr pos pins s1 σ H1 _ I1 q1) λus s2 ⟨xs,H2,I2,r2,q2⟩=>⟨x::xs,H2,I2,.cons r1 r2,q2⟩
def H12(t:TA):TE:=λσ H Q=>t σ H λxs H1=>xs.length<=sizeLine/\∀ p,H1 p=none->Q (.ref p) (upd H1 p (.tup xs))
def H22(t:TA):TE:=λσ H Q=>t σ H λxs H1=>xs.length<=sizeLine/\∀ p,H1 p=none->Q (.ref p) (upd H1 p (.lst xs))
theorem J41{x1}(h:PA X es t):PE X (.Tuple es x1 pos) (H12 t):=by
 intro pins s σ H Q I hq;refine wpAny_Tuple_spliced (thn (h pos pins s σ H _ I hq) λus s1 ⟨xs,H1,I1,r,z,q⟩=>⟨by rw[← r.length];exact z,?_⟩)
 have hf:H1 s1.heap.objs.size=none:=I1.hok.fresh (Ì _);refine⟨.ref s1.heap.objs.size,upd H1 s1.heap.objs.size (.tup xs),I1.laid (t':=s1.toks) (λb u e=>Ä _ e) (Ì _) ?_,rfl,q _ hf⟩;exact⟨z,us,r,⟨_,Ï _ rfl,rfl,_,rfl⟩⟩
theorem J51(h:PA X es t):PE X (.List es pos) (H22 t):=by
 intro pins s σ H Q I hq;refine wpAny_List_spliced (thn (h pos pins s σ H _ I hq) λus s1 ⟨xs,H1,I1,r,z,q⟩=>⟨by rw[← r.length];exact z,?_⟩)
 have hf:H1 s1.heap.objs.size=none:=I1.hok.fresh (Ì _);refine⟨.ref s1.heap.objs.size,upd H1 s1.heap.objs.size (.lst xs),I1.laid (t':=s1.toks) (λb u e=>Ä _ e) (Ì _) ?_,rfl,q _ hf⟩;exact⟨z,us,0,r,Ï _ rfl⟩
end
abbrev Sp:=List V->Hp->VK->XK->Prop
abbrev CXT:=List Env->Hp->Å->XK->Ã->Å->Prop
structure N31(P:Program)(w:World)(K:PySem.W.Frag)(mg:Str->Option Value)(base:Heap)(A:Around)(outer:List Env)(s:Shared)(H:Hp):Prop where
 frames:A.frames=some outer
 mod:Mod K mg base
 bs:∀ b o,base.get? b=some o->s.heap.get? b=some o/\H b=none
 bsz:base.objs.size<=s.heap.objs.size
 f11:s.heap.FunFrames base outer
 frf:∀ b∈frs outer,H b=none
 hok:HOk P w H s.heap
 bare:AllBare s.gens
def CE(outer:List Env)(P:ß)(w:ò)(H:Hp)(s:Å)(Q:VK)(u:Ã)(s':Å):Prop :=
 ∃ v H',s'.os=s.os/\Ò1 s'.gens/\Un (frs outer) [] H H' s.heap s'.heap/\HOk P w H' s'.heap/\RelV v u/\Q v H'
def CR(CX:CXT)(outer:List Env)(P:ß)(w:ò)(H:Hp)(s:Å)(Q:VK)(E:XK)(r:Result)(s':Å):Prop :=
 match r with
 |.ok (.ret u)=>CE outer P w H s Q u s'|.ok _=>False|.error e=>CX outer H s E e s'
structure S00(P:Program)(w:World)(K:PySem.W.Frag)(mg:Str->Option Value)(base:Heap)(CX:CXT)(k:Nat)(f:Addr)(fd:FuncData)(ps:List Str)(sp:Sp):Prop where
 len:∀ vs H Q E,sp vs H Q E->vs.length=ps.length
 run:∀ (A:Around) (outer:List Env) (s:Shared) (H:Hp) (args:Args) (us:List Value) (vs:List V) (Q:VK) (E:XK),x40 k A->N31 P w K mg base A outer s H->BindsTo s fd args (ps.zip us)->Vals vs us->sp vs H Q E ->
  codeAny (model P w) A (.call (.ref f) args) (CR CX outer P w H s Q E) s
section
variable {X:Cx}{pins:List (Æ × Obj)}{σ:St}{H:Hp}{s s':Å}
theorem Inv.t12(I:Inv X pins σ H s):N31 X.prog X.w X.K X.mg X.base X.A X.stack s H :=
 ⟨I.ok.frames,I.ok.mod,I.bs,Ò I.ok.bsz I.sz,I.stack,I.u50,I.hok,I.bare⟩
theorem Inv.after{Q:VK}{u:Ã}(I:Inv X pins σ H s)(h:CE X.stack X.prog X.w H s Q u s'):EP X pins σ Q u s':=by
 obtain⟨v,H',os,bare,un,hok,r,q⟩:=h;obtain⟨hh,g,d,t,os'⟩:=s';obtain rfl:os'=s.os:=os;exact⟨v,H',I.call (h':=hh) (g':=g) (d':=d) (t':=t) (ch:=[]) un hok bare (λb z=>absurd z (by simp)),r,q⟩
end
def t22(sp:Sp)(dvs:List V)(E:XK)(t:TA):TE:=λσ H Q=>t σ H λvs H1=>sp (vs++dvs) H1 Q E
def Binds(K:Á)(fd:Ä8)(ps:List Str)(ds:List Ã):Prop :=
 ∀ (s:Å) (us:List Ã),K.In s.heap->(us++ds).length=ps.length->BindsTo s fd ⟨us,[]⟩ (ps.zip (us++ds))
theorem Binds.all{K:Á}{fd:Ä8}{ps:List Str}(h:∀ us:List Ã,us.length=ps.length->bindArgs fd ⟨us,[]⟩=pure (ps.zip us)):Binds K fd ps []:=λs us _ hl=>by
 rw[Á9] at hl ⊢;exact .of_eq (h us hl)
def Passes(CX:CXT)(X:Cx)(E:XK):Prop:=∀ (pins:List (Æ × Obj)) (σ:St) (H:Hp) (s:Å) (e:Ã) (s':Å),Inv X pins σ H s->CX X.stack H s E e s'->X.xe e s'
section
variable {X:Cx}{CX:CXT}{k:Nat}{f C:Æ}{fd:Ä8}{ps:List Str}{sp:Sp}{dvs:List V}{ds:List Ã}{E:XK}{x m:Str}{p pos apos:Pos}{e o:Ñ}{es:List Ñ}{ta:TE}{t:TA}
theorem d12{pins:List (Æ × Obj)}{σ:St}{H:Hp}{s:Å}{Q:VK}{us:List Ã}{vs:List V}(F:S00 X.prog X.w X.K X.mg X.base CX k f fd ps sp)(hr:x40 k X.A)(hb:Binds X.K fd ps ds)(hd:Vals dvs ds)(hx:Passes CX X E)
  (I:Inv X pins σ H s) (r:Vals vs us) (h:sp (vs++dvs) H Q E):Ó (Ü X.prog X.w) X.A (call (.ref f) us) (EP X pins σ Q) X.xe s:=by
 have r2:Vals (vs++dvs) (us++ds):=r.append hd;have hl:(us++ds).length=ps.length:=by rw[← r2.length];exact F.len _ _ _ _ h
 refine Ù6 (Ë7 (F.run X.A X.stack s H ⟨us,[]⟩ (us++ds) (vs++dvs) Q E hr I.t12 (hb s us I.kIn hl) r2 h) λr s' hq=>?_);cases r with
 |error e=>exact hx pins σ H s e s' I hq
 |ok fl =>
  cases fl with
  |ret u=>exact I.after hq|next=>exact ý hq
  |brk=>exact ý hq|cont=>exact ý hq
theorem N41(F:S00 X.prog X.w X.K X.mg X.base CX k f fd ps sp)(hr:x40 k X.A)(hg:Gl X x)(hm:X.mg x=some (.ref f))(hk:Ò4 X.K (.ref f)=true)(hb:Binds X.K fd ps ds)(hd:Vals dvs ds)(hx:Passes CX X E)
  (ha:PA X (e::es) t) (hdb:(x == ("__debug__":Str))=false:=by decide) (he:û (e::es) X.env=(false,eval e X.env)::û es X.env:=by rfl) (hpl:(Ó9 pos (û es X.env)).any (·.1)=false:=by rfl) :
  PE X (.Call (.Name x p) (e::es) [] pos) (t22 sp dvs E t):=by
 intro pins s σ H Q I h;refine Ê6 (G20 I hg hm ?_ hdb);refine callWith_K (h₀:=X.base) I.ok.mod.kin hk (thn (ha pos pins s σ H _ I h) λus s1 ⟨vs,H1,I1,r,q⟩=>⟨I1.kIn,?_⟩) he hpl;exact d12 F hr hb hd hx I1 r q
end
structure j20(N P:List Str)(sc:Scope):Prop where
 kind:sc.kind=.function
 co:sc.isCoroutine=false
 gen:sc.isGenerator=false
 nd:N.Nodup
 pre:N.take P.length=P
 par:∀ x∈P,sc.names.lookup x=some .local∨sc.names.lookup x=some .cell
 nofree:∀ y∈sc.names,y.2≠.free
theorem M00{kindOf:Str->Option Ê1}{x:Str}:∀ {binds:List (Str × Ã)}{m:Str->Option Ã},(∀ v,(x,v) ∉ binds)->bindL kindOf binds m x=m x
 |[],_,_=>rfl
 |(n,v)::r,m,h=>by
  unfold bindL;rw[M00 λw hw=>h w (Ê _ hw)];split
  ·have:x≠n:=by rintro rfl;exact h v É
   simp[this]
  ·rfl
theorem M10{kindOf:Str->Option Ê1}{x:Str}:∀ {binds:List (Str × Ã)}{m:Str->Option Ã},(∀ v,(x,v) ∉ binds)->bindC kindOf binds m x=m x
 |[],_,_=>rfl
 |(n,v)::r,m,h=>by
  unfold bindC;rw[M10 λw hw=>h w (Ê _ hw)];split
  ·rfl
  ·have:x≠n:=by rintro rfl;exact h v É
   simp[this]
theorem M20{kindOf:Str->Option Ê1}{x:Str}{v:Ã}:∀ {P:List Str}{vs:List Ã}{i:Nat}{m:Str->Option Ã},P.Nodup->P[i]?=some x->vs[i]?=some v->kindOf x=some .local ->
  bindL kindOf (P.zip vs) m x=some v
 |[],_,_,_,_,h,_,_=>by simp at h|_::_,[],_,_,_,_,h,_=>by simp at h
 |p::P,w::vs,0,m,nd,h1,h2,hk=>by
  simp at h1 h2;subst h1;subst h2;show bindL kindOf ((p,w)::P.zip vs) m p=_;unfold bindL;rw[M00 λv hv=>(Ò6.mp nd).1 (of_mem_zip hv).1,if_pos hk];simp
 |p::P,w::vs,i + 1,m,nd,h1,h2,hk=>by
  show bindL kindOf ((p,w)::P.zip vs) m x=_;unfold bindL;exact M20 (i:=i) (Ò6.mp nd).2 (by simpa using h1) (by simpa using h2) hk
theorem M30{kindOf:Str->Option Ê1}{x:Str}{v:Ã}:∀ {P:List Str}{vs:List Ã}{i:Nat}{m:Str->Option Ã},P.Nodup->P[i]?=some x->vs[i]?=some v->kindOf x≠some .local ->
  bindC kindOf (P.zip vs) m x=some v
 |[],_,_,_,_,h,_,_=>by simp at h|_::_,[],_,_,_,_,h,_=>by simp at h
 |p::P,w::vs,0,m,nd,h1,h2,hk=>by
  simp at h1 h2;subst h1;subst h2;show bindC kindOf ((p,w)::P.zip vs) m p=_;unfold bindC;rw[M10 λv hv=>(Ò6.mp nd).1 (of_mem_zip hv).1,if_neg hk];simp
 |p::P,w::vs,i + 1,m,nd,h1,h2,hk=>by
  show bindC kindOf ((p,w)::P.zip vs) m x=_;unfold bindC;exact M30 (i:=i) (Ò6.mp nd).2 (by simpa using h1) (by simpa using h2) hk
def start(N:List Str)(vs:List V):St:=vs.map some++ï (N.length - vs.length) none
def C90(CX:CXT)(P:ß)(w:ò)(K:Á)(mg:Str->Option Ã)(base:ë)(N:List Str)(qual:Str)(scope:ú)(f:Æ)(cd:Ã)(A:ù)(outer:List Env)(s:Å)(H:Hp)(E:XK):Cx where
 prog:=P
 w:=w
 K:=K
 mg:=mg
 base:=base
 A:=A.deeper (Î4 qual scope s.heap.objs.size f cd)
 N:=N
 s₀:=s
 H₀:=H
 env:=Î4 qual scope s.heap.objs.size f cd
 outer:=outer
 stack:=Î4 qual scope s.heap.objs.size f cd::outer
 ex:=[]
 calm:=true
 fn:=λ_=>true
 pn:=[]
 xe:=λe s'=>Ó (Ü P w) (A.deeper (Î4 qual scope s.heap.objs.size f cd)) (leaving (Î4 qual scope s.heap.objs.size f cd) e) (λ_ s''=>CX outer H s E e s'') (λe' s''=>CX outer H s E e' s'') s'
theorem Y80{sc:ú}{n:Nat}{x:Str}(h:sc.names.lookup x=some .cell):∃ c,(cellsFrom n sc.names []).lookup x=some c:=by
 have q:=cellsFrom_some sc.names n [] (.inl h);exact Û9.mp q
theorem M40{CX:CXT}{P:ß}{w:ò}{K:Á}{mg:Str->Option Ã}{base:ë}{N ps:List Str}{qual:Str}{scope:ú}{f:Æ}{cd:Ã}{A:ù}{outer:List Env}{s s1:Å}{H:Hp}{E:XK}{us:List Ã}{vs:List V}
  (S:j20 N ps scope) (hd:A.handled=none) (e0:N31 P w K mg base A outer s H) (hl:vs.length=ps.length) (r:Vals vs us)
  (x:InCallC s s.heap.objs.size (bindL (Î4 qual scope s.heap.objs.size f cd).kindOf (ps.zip us) λ_=>none) (cellsFrom (s.heap.objs.size + 1) scope.names []) (bindC (Î4 qual scope s.heap.objs.size f cd).kindOf (ps.zip us) λ_=>none) s1) :
  Inv (C90 CX P w K mg base N qual scope f cd A outer s H E) [] (start N vs) H s1:=by
 have hpl:ps.length<=N.length:=by have:=congrArg Ó4 S.pre;rw[Ä5] at this;omega
 obtain⟨h1,tk,rfl,hk⟩:=x.done;have noA:∀ b:Æ,b ∉ (C90 CX P w K mg base N qual scope f cd A outer s H E).ex:=λb z=>absurd (show b∈([]:List Æ) from z) (by simp)
 refine⟨⟨e0.mod,S.kind,rfl,rfl,Ì _,λy z c h1 h2=>?_,λy hy=>?_,λy c _ h=>?_,λ_=>hd,Ý5 e0.frames,.inr ⟨rfl,rfl⟩,λb z=>absurd z (noA b),e0.bs,e0.bsz,λb _ _=>noA b,λb z=>absurd z (noA b),e0.f11,e0.frf⟩,
  rfl,e0.bare,Un.kept hk,⟨_,x.toInCall.ns,λi y v h1 h2 h3=>?_⟩,λy c h=>⟨_,x.cell y c h⟩,e0.hok.fresh (Ì _),λy c h=>?_,λp hp=>absurd (show p∈([]:List (Æ × Obj)) from hp) (by simp),e0.hok.kept hk,?_⟩
 ·exact name_of_addr x.apart (Á1 h1) (Á1 h2)
 ·have hy:scope.names.lookup y=some .cell∨scope.names.lookup y=some .free:=hy;rcases hy with hy | hy
  ·exact Y80 hy
  ·exact absurd rfl (S.nofree _ (Á1 hy))
 ·exact Í6 (x.above y c (Á1 h))
 ·have hi:i < vs.length:=by
   unfold start at h2;by_cases hi:i < vs.length
   ·exact hi
   ·rw[Ä9 (by simpa using hi)] at h2
    rw[Ñ3] at h2;split at h2 <;> cases h2
  have ha:vs[i]?=some v:=by
   unfold start at h2;rw[Ï3 (by simpa using hi),à] at h2
   cases e:vs[i]? with
   |none=>rw[e] at h2;cases h2
   |some a=>rw[e] at h2;cases h2;rfl
  obtain⟨u,hu,rv⟩:=r.get ha;have hp:ps[i]?=some y:=by
   rw[← S.pre,List.getElem?_take_of_lt ∅];exact h1
  have ndP:ps.Nodup:=by rw[← S.pre];exact S.nd.sublist (List.take_sublist _ _)
  refine⟨u,rv,?_⟩;rcases S.par y (ì hp) with k | k
  ·exact .inl ⟨k,M20 ndP hp hu k⟩
  ·obtain⟨c,e⟩:=Y80 (n:=s.heap.objs.size + 1) k;refine .inr ⟨.inl k,c,e,?_⟩;have q:=x.cell y c e;rw[M30 ndP hp hu (by show scope.names.lookup y≠_;rw[k];decide)] at q
   exact q
 ·exact e0.hok.fresh (Í6 (x.above y c (Á1 h)))
 ·unfold start;show _=N.length;rw[õ,Ç,Ý9];omega
theorem t32{CX:CXT}{P:ß}{w:ò}{K:Á}{mg:Str->Option Ã}{base:ë}{k:Nat}{f:Æ}{name qual:Str}{params:Í2}{body:List Å0}{scope:ú}{dV kV doc pm cdv ct oc:Ã}{an od:Option Æ}
  {osl:Array (Option Ã)}{N ps:List Str}{sp:Sp} (lk:K.lookup f=some ⟨oc,od,.func (fnOf name qual params body scope dV kV doc pm an cdv ct),osl⟩) (hcd:PySem.W.codeIn K cdv qual=true) (S:j20 N ps scope)
  (len:∀ vs H Q E,sp vs H Q E->vs.length=ps.length)
  (hbody:∀ (A:ù) (outer:List Env) (s:Å) (H:Hp) (vs:List V) (Q:VK) (E:XK),x40 k (A.deeper (Î4 qual scope s.heap.objs.size f cdv))->sp vs H Q E ->
   ∃ t,PSs (C90 CX P w K mg base N qual scope f cdv A outer s H E) body t/\t { nx:=λ_ H'=>Q .non H',rt:=Q } (start N vs) H) :
  S00 P w K mg base CX (k + 1) f (fnOf name qual params body scope dV kV doc pm an cdv ct) ps sp:=by
 refine⟨len,λA outer s H args us vs Q E hr e0 hb r hsp=>?_⟩;have hl:=len _ _ _ _ hsp;have KX:K.In s.heap:=e0.mod.kin.keeps λb o e=>(e0.bs b o e).1;have lim:s.heap.NoLimit:=e0.mod.nolimit.keeps λb o e=>(e0.bs b o e).1;have hkind:∀ y∈ps.zip us,scope.names.lookup y.1=some .local∨(scope.names.lookup y.1=some .cell/\((cellsFrom (s.heap.objs.size + 1) scope.names []).lookup y.1).isSome=true):=λ⟨n,v⟩ hy=>by
  rcases S.par n (of_mem_zip hy).1 with q | q
  ·exact .inl q
  ·exact .inr ⟨q,cellsFrom_some _ _ _ (.inl q)⟩
 refine codeAny_call_function hr.depth (KX _ _ lk) rfl S.co S.gen rfl (codeRec_of KX hcd) (hb _ _ _ _ ?_);refine Ý6 S.kind hkind λenv he s1 x=>?_;subst he;refine⟨lim.keeps x.toInCall.keep,codeAny_func ?_⟩;obtain⟨t,ht,hq⟩:=hbody A outer s H vs Q E (hr.deeper _) hsp;have I:Inv (C90 CX P w K mg base N qual scope f cdv A outer s H E) [] (start N vs) H s1:=M40 S hr.hd e0 hl r x;refine Â5 (ht [] s1 (start N vs) H _ I hq) (λfl s' hs=>?_) λe s' hs=>hs;have fin:∀ {σ':St}{H':Hp}{v:V}{u:Ã},Inv (C90 CX P w K mg base N qual scope f cdv A outer s H E) [] σ' H' s'->RelV v u->Q v H'->CE outer P w H s Q u s' :=
  λ{σ' H' v u} J rv q=>⟨v,H',J.os,J.bare,J.base,J.hok,rv,q⟩
 cases fl with
 |ret u =>
  obtain⟨v,σ',H',J,rv,q⟩:=hs;exact fin J rv q
 |next =>
  obtain⟨σ',H',J,q⟩:=hs;exact fin (v:=V.non) (u:=é) J rfl q
 |brk =>
  obtain⟨_,_,_,q⟩:=hs;exact ý q
 |cont =>
  obtain⟨_,_,_,q⟩:=hs;exact ý q
section
variable {X:Cx}{x:Str}{p pos:Pos}{e:Ñ}{es:List Ñ}{t:TA}{id T:String}{r:List V->Hp->VK->Prop}
def tCB(r:List V->Hp->VK->Prop)(t:TA):TE:=λσ H Q=>t σ H λvs H1=>r vs H1 Q
theorem y00(hc:e60 X (.builtin id) r)(hg:Gl X x)(hm:X.mg x=none)(hv:ð x=some (.builtin id))(ha:PA X (e::es) t)(hn:x≠"__name__":=by decide)(hdb:(x == ("__debug__":Str))=false:=by decide)
  (he:û (e::es) X.env=(false,eval e X.env)::û es X.env:=by rfl) (hpl:(Ó9 pos (û es X.env)).any (·.1)=false:=by rfl):PE X (.Call (.Name x p) (e::es) [] pos) (tCB r t):=by
 intro pins s σ H Q I h;refine Ê6 (w10 I hg hm hv ?_ hn hdb);exact PyProof.Rows.callWith_builtin1 (thn (ha pos pins s σ H _ I h) λus s1 ⟨vs,H1,I1,r1,q1⟩=>hc pins s1 σ H1 vs us Q I1 r1 q1) he hpl
theorem l21(hc:e60 X (.type T) r)(hg:Gl X x)(hm:X.mg x=none)(hv:ð x=some (.type T))(ha:PA X (e::es) t)(hn:x≠"__name__":=by decide)(hdb:(x == ("__debug__":Str))=false:=by decide)
  (he:û (e::es) X.env=(false,eval e X.env)::û es X.env:=by rfl) (hpl:(Ó9 pos (û es X.env)).any (·.1)=false:=by rfl):PE X (.Call (.Name x p) (e::es) [] pos) (tCB r t):=by
 intro pins s σ H Q I h;refine Ê6 (w10 I hg hm hv ?_ hn hdb);exact Á4 (thn (ha pos pins s σ H _ I h) λus s1 ⟨vs,H1,I1,r1,q1⟩=>hc pins s1 σ H1 vs us Q I1 r1 q1) he hpl
end
end L2
namespace HT
open PySem PyProof.Rows
theorem A21(A:ù)(s:Å)(a:Int)(t:Tok)(c:Int)(u:Tok):∃ e,Õ4 A s (.int a t) (.int c u) e/\(e=true↔a=c) :=
 ⟨(a == c),Õ4.int_int a t c u,by simp⟩
theorem Y90(A:ù)(s:Å)(a:Int)(t:Tok)(c:Int)(u:Tok)(prog:ß)(w:ò)(E:Ã->Å->Prop)(Q:Ã->Å->Prop)(h:Q (.bool (decide (a < c))) s) :
  Ó (Ü prog w) A (richCompare .Lt (.int a t) (.int c u)) Q E s :=
 (lt_int h:Ó (Ü prog w) A (ÿ .Lt (.int a t) (.int c u)) Q E s)
section
variable {prog:ß}{w:ò}{A:ù}{E:Ã->Å->Prop}{s:Å}
theorem N51{t b:Æ}{vs ws:List Ã}{Q:Ã->Å->Prop}(ht:Ï4 s.heap t vs.toArray)(hb:Ï4 s.heap b ws.toArray)(hv:vs≠[])
  (h1:ws=[]->Q (.ref t) s) (h2:ws≠[]->Q (.ref s.heap.objs.size) { s with heap:=s.heap.push { cls:=.type "tuple",data:=.seq (vs++ws).toArray } })
  (hsz:vs.length + ws.length<=sizeLine):Ó (Ü prog w) A (Ä7 .Add (.ref t) (.ref b)) Q E s:=by
 obtain⟨⟨cls,dd,data,sl⟩,ho,hc,n,hd⟩:=id ht;obtain⟨⟨cls2,dd2,data2,sl2⟩,ho2,hc2,n2,hd2⟩:=id hb;simp only at hc hd hc2 hd2;subst hc hd hc2 hd2;have e:vs.toArray++ws.toArray=(vs++ws).toArray:=by simp
 by_cases hw:ws=[]
 ·exact concat_meets ⟨_,ho,rfl⟩ ⟨_,ho2,rfl⟩ Ü1 seq_tuple_add Ð8 Ð1 (Î5 _ _)
   (tuple_addW1 t b vs.toArray ws.toArray n n2 dd dd2 sl sl2 (by simpa using hv) (by simp[hw])) ⟨ho,ho2,h1 hw⟩
 ·refine concat_meets ⟨_,ho,rfl⟩ ⟨_,ho2,rfl⟩ Ü1 seq_tuple_add Ð8 Ð1 (Î5 _ _)
   (tuple_addW2 t b vs.toArray ws.toArray n n2 dd dd2 sl sl2 (by simpa using hv) (by simpa using hw) (by rw[Õ,Õ];exact hsz)) ⟨ho,ho2,?_⟩
  rw[e];exact h2 hw
def sIx(n d:Nat):Option Int->Nat
 |none=>d|some v=>if v < 0 then(v + (n:Int)).toNat else min v.toNat n
theorem l31(n d k:Nat):sIx n d (some (k:Int))=min k n:=by
 show(if (k:Int) < 0 then((k:Int) + (n:Int)).toNat else min (k:Int).toNat n)=min k n;rw[if_neg ∅,Ã1]
theorem d22(n d:Nat)(hd:d<=n)(o:Option Int):sIx n d o<=n:=by
 cases o with
 |none=>exact hd
 |some v =>
  show(if v < 0 then(v + (n:Int)).toNat else min v.toNat n)<=n;by_cases hv:v < 0
  ·rw[if_pos hv];omega
  ·rw[if_neg hv];exact Nat.min_le_right _ _
theorem l41(v:Int)(n d:Nat):(if v < 0 then max (v + (n:Int)) 0 else min v (n:Int))=((sIx n d (some v):Nat):Int):=by
 show(if v < 0 then max (v + (n:Int)) 0 else min v (n:Int))=(((if v < 0 then(v + (n:Int)).toNat else min v.toNat n):Nat):Int);by_cases hv:v < 0
 ·simp only[if_pos hv];omega
 ·simp only[if_neg hv];omega
theorem f51(lo hi:Option Int)(n:Nat):sliceAdjust lo hi 1 (n:Int)=(((sIx n 0 lo:Nat):Int),((sIx n n hi:Nat):Int)):=by
 have h1:¬ ((1:Int) < 0):=by omega
 unfold sliceAdjust;simp only[h1,if_false];refine Prod.ext ?_ ?_
 ·cases lo with
  |none=>rfl|some v=>exact l41 v n 0
 ·cases hi with
  |none=>rfl|some v=>exact l41 v n n
theorem f61(i j:Nat):Ô1 (i:Int) (j:Int) 1=j - i:=by
 unfold Ô1;have h1:(1:Int) > 0:=by omega
 simp only[h1,if_true,Int.ediv_one];split <;> omega
theorem D50{v:Ã}{o:Option Int}{Q:Option Int->Å->Prop}(p:Ö6 v o)(h:Q o s):Ó (Ü prog w) A (Ä2.Slice.slicePartIndex v) Q E s:=by
 cases p with
 |none=>exact slicePart_none h|int i t=>exact slicePart_int h
theorem l60{sl:Æ}{vl vu:Ã}{lo hi:Option Int}{n:Nat}{Q:Int × Int × Nat->Å->Prop}(hs:s.heap.IsSliceOf sl vl vu .none)(pl:Ö6 vl lo)(pu:Ö6 vu hi)
  (h:Q (((sIx n 0 lo:Nat):Int),1,sIx n n hi - sIx n 0 lo) s):Ó (Ü prog w) A (sliceApplied (.ref sl) (pure (n:Int))) Q E s:=by
 obtain⟨os,hos,hcs,hds⟩:=id hs;unfold sliceApplied Ä2.Slice.sliceFields;refine À (À (Â2 hos hds (x:=vl) rfl (À (Â2 hos hds (x:=vu) rfl (À (Â2 hos hds (x:=.none) rfl (Ë ?_)))))));refine À (slicePart_none ?_);show Ó _ _ (if ((1:Int) == 0)=true then _ else _) _ _ s;rw[if_neg (-0)]
 refine À (D50 pl (À (D50 pu (À (Ë ?_)))));show Ó _ _ (match sliceAdjust lo hi 1 (n:Int) with | (lo,hi)=>pure (lo,(1:Int),Ô1 lo hi 1)) _ _ s
 rw[f51 lo hi n];show Ó _ _ (pure (((sIx n 0 lo:Nat):Int),(1:Int),Ô1 ((sIx n 0 lo:Nat):Int) ((sIx n n hi:Nat):Int) 1)) _ _ s;rw[f61];exact Ë h
theorem A31(xs:Array Ã)(i k:Nat):((Ú k).filterMap λ(m:Nat)=>xs[((i:Int) + (m:Int) * 1).toNat]?).toArray=((xs.toList.drop i).take k).toArray:=by
 have e:(λ(m:Nat)=>xs[((i:Int) + (m:Int) * 1).toNat]?)=λm=>xs[i + m]?:=by
  funext m
  have:((i:Int) + (m:Int) * 1).toNat=i + m:=by omega
  rw[this]
 rw[e];have:=pick_run xs i k;rw[List.filterMap_map] at this;have e2:((λx=>xs[x]?) ∘ λx=>i + x)=λm=>xs[i + m]?:=rfl;rw[e2] at this;rw[this]
theorem u60{t sl:Æ}{items:Array Ã}{vl vu:Ã}{lo hi:Option Int}{Q:Ã->Å->Prop}(ht:Ï4 s.heap t items)(hs:s.heap.IsSliceOf sl vl vu .none)(pl:Ö6 vl lo)(pu:Ö6 vu hi)
  (hw:¬ (sIx items.size 0 lo=0/\sIx items.size items.size hi=items.size))
  (h:Q (.ref s.heap.objs.size) { s with heap:=s.heap.push { cls:=.type "tuple",data:=.seq ((items.toList.drop (sIx items.size 0 lo)).take (sIx items.size items.size hi - sIx items.size 0 lo)).toArray } })
  (hsz:items.size<=sizeLine):Ó (Ü prog w) A (Ö8 (.ref t) (.ref sl)) Q E s:=by
 have htake:sizeOk (.seq ((items.toList.drop (sIx items.size 0 lo)).take (sIx items.size items.size hi - sIx items.size 0 lo)).toArray):=by
  show((items.toList.drop (sIx items.size 0 lo)).take (sIx items.size items.size hi - sIx items.size 0 lo)).toArray.size<=sizeLine;rw[Õ,Ä5,É9,È9];omega
 have hj:sIx items.size items.size hi<=items.size:=d22 _ _ (Ì _) hi;obtain⟨os,hos,hcs,hds⟩:=id hs;have hTs:s.TypeIs (.ref sl) "slice":=⟨os,hos,hcs⟩;unfold Ö8
 try with_reducible refine Å1 ?_
 first | refine À (Ë ?_) | skip
 refine À (wpAny_sequenceKey ht.typeIs (-0) ?_)
 refine À (Ä1 (name:=Á6 "__getitem__") ht.typeIs Â1
  (Æ3 Â1 ht.typeIs entry_tuple_getitem ?_ (args_tuple_getitem _ _)))
 show Ó _ _ (tupleItemsOf (.ref t) >>= _) _ _ s;refine À (tupleItemsOf_ ht ?_);refine À (Ï6 hTs ?_);rw[if_pos (-0)]
 refine À (l60 hs pl pu ?_);have hno:¬ ((((sIx items.size 0 lo:Nat):Int) == 0&&(1:Int) == 1&&(sIx items.size items.size hi - sIx items.size 0 lo) == items.size)=true):=by
  intro q;rw[Â,Â] at q;have q1:((sIx items.size 0 lo:Nat):Int)=0:=eq_of_beq q.1.1;have q2:sIx items.size items.size hi - sIx items.size 0 lo=items.size:=eq_of_beq q.2;exact hw ⟨by omega,by omega⟩
 show Ó _ _ (if (((sIx items.size 0 lo:Nat):Int) == 0&&(1:Int) == 1&&(sIx items.size items.size hi - sIx items.size 0 lo) == items.size)=true then _ else _) _ _ s;rw[if_neg hno,A31]
 first
  |exact À (m:=Ë9 _) (À0 (Ë ⟨_,rfl,Ë h⟩) htake)
  |exact À (m:=Ë9 _) (À0 (À (Ë (Ë ⟨_,rfl,Ë h⟩))) htake)
  |exact À (À (m:=Ë9 _) (À0 (Ë (Ë ⟨_,rfl,Ë h⟩)) htake))
  |exact À (À (m:=Ë9 _) (À0 (Ë ⟨_,rfl,Ë h⟩) htake))
end
end HT
namespace L2
open PySem PySem.Spec PyProof.Rows
abbrev TO:=St->Hp->(Option Int->Hp->Prop)->Prop
def PO(X:Cx)(e:Option Ñ)(t:TO):Prop :=
 ∀ (pins:List (Æ × Obj)) (s:Å) (σ:St) (H:Hp) (Q:Option Int->Hp->Prop),Inv X pins σ H s->t σ H Q ->
  Ó (Ü X.prog X.w) X.A (evalPart e X.env) (λu s'=>∃ o H',Inv X pins σ H' s'/\Ö6 u o/\Q o H') X.xe s
def N61:TO:=λ_ H Q=>Q none H
def t42(t:TE):TO:=λσ H Q=>t σ H λx H1=>∃ i,x=.int i/\Q (some i) H1
theorem intsAre_of{ns:List Int}:∀ {us:List Ã},Vals (ns.map V.int) us->Ê4 us ns:=by
 induction ns with
 |nil=>intro us r;rw[map_nil] at r;cases r;exact .nil
 |cons n ns ih =>
  intro us r;rw[Ç0] at r;cases r with
  |cons r1 r2 =>
   obtain⟨t,e⟩:=r1;subst e;exact .cons n t (ih r2)
section
variable {X:Cx}{e:Ñ}{te:TE}{lo hi:Option Ñ}{tl th:TO}{pos p2:Pos}
theorem N71:PO X none N61:=by
 intro pins s σ H Q I h;rw[evalPart_none];exact Ë ⟨none,H,I,.none,h⟩
theorem N81(h:PE X e te):PO X (some e) (t42 te):=by
 intro pins s σ H Q I hw;rw[evalPart_some];refine thn (h pins s σ H _ I hw) λu s1 ⟨x,H1,I1,r1,q1⟩=>?_;obtain⟨i,rfl,q⟩:=q1;obtain⟨t,rfl⟩:=r1;exact⟨some i,H1,I1,.int i t,q⟩
def SlR(X:Cx)(r:V->Option Int->Option Int->Hp->VK->Prop):Prop :=
 ∀ (pins:List (Æ × Obj)) (s:Å) (σ:St) (H:Hp) (x:V) (v vl vu:Ã) (lo hi:Option Int) (sl:Æ) (Q:VK),Inv X pins σ H s->RelV x v->s.heap.IsSliceOf sl vl vu .none->Ö6 vl lo->Ö6 vu hi->r x lo hi H Q ->
  ∃ T id,typeLookup (.type T) "__getitem__"=pure (some (.builtin id))/\s.TypeIs v T/\Ó (Ü X.prog X.w) X.A (Ö8 v (.ref sl)) (EP X pins σ Q) X.xe s
def tSl(r:V->Option Int->Option Int->Hp->VK->Prop)(te:TE)(tl th:TO):TE:=λσ H Q=>te σ H λx H1=>tl σ H1 λl H2=>th σ H2 λu H3=>r x l u H3 Q
theorem A41{r:V->Option Int->Option Int->Hp->VK->Prop}(hr:SlR X r)(he:PE X e te)(hl:PO X lo tl)(hu:PO X hi th):PE X (.Subscript e (.Slice lo hi none p2) pos) (tSl r te tl th):=by
 intro pins s σ H Q I h;refine Subscript_ (thn (he pins s σ H _ I h) λv s1 ⟨x,H1,I1,r1,q1⟩=>?_);refine wpAny_Slice (thn (hl pins s1 σ H1 _ I1 q1) λvl s2 ⟨l,H2,I2,pl,q2⟩=>thn (hu pins s2 σ H2 _ I2 q2) λvu s3 ⟨u,H3,I3,pu,q3⟩=>?_);rw[evalPart_none];refine Ë ?_;have I4:Inv X pins σ H3 { s3 with heap:=s3.heap.push { cls:=.type "slice",data:=.fields #[vl,vu,.none] } }:=I3.kept (t':=s3.toks) λb ob q=>Ä _ q;obtain⟨T,id,hT,ht,hg⟩:=hr pins { s3 with heap:=s3.heap.push { cls:=.type "slice",data:=.fields #[vl,vu,.none] } } σ H3 x v vl vu l u s3.heap.objs.size Q I4 r1 (ë.IsSliceOf.new ..) pl pu q3;show Ó (Ü X.prog X.w) X.A (subscriptTail e (.Slice lo hi none p2) v (.ref s3.heap.objs.size)) (EP X pins σ Q) X.xe { s3 with heap:=s3.heap.push { cls:=.type "slice",data:=.fields #[vl,vu,.none] } };exact tail_any (ops:=[.ref s3.heap.objs.size,v]) ht hT hg (by with_unfolding_all rfl)
def A51(xs:List V)(lo hi:Option Int):List V:=(xs.drop (HT.sIx xs.length 0 lo)).take (HT.sIx xs.length xs.length hi - HT.sIx xs.length 0 lo)
theorem z20(xs:List V)(lo hi:Option Int):(A51 xs lo hi).length<=xs.length:=by
 unfold A51;rw[Ä5,É9];omega
theorem Vals.G50{xs:List V}{us:List Ã}(r:Vals xs us):us=[]↔xs=[]:=by
 cases r with
 |nil=>simp|cons _ _=>simp
end
def ixN(n:Nat)(i:Int):Option Nat:=if 0<=i then(if i < n then some i.toNat else none) else if -(n:Int)<=i then some (i + n).toNat else none
def atI{α:Type}(xs:List α)(i:Int):Option α:=(ixN xs.length i).bind λj=>xs[j]?
theorem l51{n:Nat}{i:Int}{j:Nat}(h:ixN n i=some j):seqIndex? i n=some j/\j < n/\-(n:Int)<=i/\i < n:=by
 unfold ixN at h;by_cases h0:0<=i
 ·rw[if_pos h0] at h;by_cases h1:i < n
  ·rw[if_pos h1] at h;have e:i.toNat=j:=Á2 h;exact⟨by rw[Ü8 h0 h1,e],by omega,by omega,h1⟩
  ·rw[if_neg h1] at h;cases h
 ·rw[if_neg h0] at h;by_cases h1:-(n:Int)<=i
  ·rw[if_pos h1] at h;have e:(i + n).toNat=j:=Á2 h;exact⟨by rw[seqIndex_neg ∅ h1,e],by omega,h1,by omega⟩
  ·rw[if_neg h1] at h;cases h
theorem l61{α:Type}{xs:List α}{i:Int}{v:α}(h:atI xs i=some v):∃ j,seqIndex? i xs.length=some j/\xs[j]?=some v/\j < xs.length/\-(xs.length:Int)<=i/\i < xs.length:=by
 unfold atI at h;cases e:ixN xs.length i with
 |none=>rw[e] at h;cases h
 |some j =>
  rw[e] at h;obtain⟨h1,h2,h3,h4⟩:=l51 e;exact⟨j,h1,h,h2,h3,h4⟩
theorem u70{α:Type}{xs:List α}{j:Nat}{v:α}(h:xs[j]?=some v):atI xs (j:Int)=some v:=by
 have hj:j < xs.length:=(Û.mp h).1;have e:ixN xs.length (j:Int)=some j:=by
  unfold ixN;rw[if_pos ∅,if_pos ∅];simp
 unfold atI;rw[e];exact h
def l71(b:Ñ):Prop:=∀ o i,subscripted b false o i=operate [o,i] (Ö8 o i)
def IxR(X:Cx)(r:R2):Prop :=
 ∀ (value slice:Ñ) (pins:List (Æ × Obj)) (s:Å) (σ:St) (H:Hp) (x y:V) (v u:Ã) (Q:VK),Inv X pins σ H s->RelV x v->RelV y u->r x y H Q ->
  subscripted slice false v u=operate [v,u] (Ö8 v u)->Ó (Ü X.prog X.w) X.A (subscriptTail value slice v u) (EP X pins σ Q) X.xe s
def MtR(X:Cx)(id:String)(r:V->List V->Hp->VK->Prop):Prop :=
 ∀ (pins:List (Æ × Obj)) (s:Å) (σ:St) (H:Hp) (x:V) (xs:List V) (v:Ã) (us:List Ã) (Q:VK),Inv X pins σ H s->RelV x v->Vals xs us->r x xs H Q ->
  Ó (Ü X.prog X.w) X.A (call (.builtin id) (v::us)) (EP X pins σ Q) X.xe s
section
variable {X:Cx}{a b:Ñ}{ta tb:TE}{pos:Pos}
theorem N91{r:R2}(hr:IxR X r)(ha:PE X a ta)(hb:PE X b tb)(hs:l71 b):PE X (.Subscript a b pos) (tOp r ta tb):=by
 intro pins s σ H Q I h;exact Subscript_ (s52 ha hb I h λv u s2 x y H2 I2 rx ry q=>hr a b pins s2 σ H2 x y v u Q I2 rx ry q (hs _ _))
def C92(K:Á):R2:=λx y H Q=>∃ p xs i v,x=.ref p/\y=.int i/\SqL K H p xs/\atI xs i=some v/\Q v H
def H32(K:Á):R2:=λx y H Q=>∃ p xs i v,x=.ref p/\y=.int i/\SqT K H p xs/\atI xs i=some v/\Q v H
theorem S70:IxR X (C92 X.K):=by
 intro value slice pins s σ H x y v u Q I rx ry h hs;obtain⟨p,xs,i,z,rfl,rfl,hq,he,q⟩:=h;cases rx;obtain⟨t,rfl⟩:=ry;obtain⟨its,r,pl,hz⟩:=I.list hq;obtain⟨j,h1,h2,h3,h4,h5⟩:=l61 he;obtain⟨w,ew,rw'⟩:=r.get h2;have hl:=r.length;have hn:=Y70;have fin:EP X pins σ Q w s:=⟨z,H,I,rw',q⟩;by_cases h0:0<=i
 ·have hj:i.toNat=j:=by
   rw[Ü8 h0 h5] at h1;exact Á2 h1
  exact item_listR pl.isList h0 ∅ (by rw[hj];simpa using ew) fin hs
 ·have hj:(i + (its.toArray.size:Int)).toNat=j:=by
   rw[seqIndex_neg ∅ h4] at h1
   rw[Õ,← hl];exact Á2 h1
  exact subscriptTail_builtinR (x:=w) pl.isList.typeIs slot_list_getitem.lookup
   (wpAny_getItem_list_neg (Q:=λr s'=>r=w/\EP X pins σ Q r s') pl.isList ∅ (by rw[Õ] <;> omega) ∅ (by rw[hj];simpa using ew) ⟨rfl,fin⟩) hs
theorem d32:IxR X (H32 X.K):=by
 intro value slice pins s σ H x y v u Q I rx ry h hs;obtain⟨p,xs,i,z,rfl,rfl,hq,he,q⟩:=h;cases rx;obtain⟨t,rfl⟩:=ry;obtain⟨its,r,pl,hz⟩:=I.tuple hq;obtain⟨j,h1,h2,h3,h4,h5⟩:=l61 he;obtain⟨w,ew,rw'⟩:=r.get h2;have hl:=r.length;have hn:=Y70;have fin:EP X pins σ Q w s:=⟨z,H,I,rw',q⟩;exact subscriptTail_builtinR (x:=w) pl.typeIs slot_tuple_getitem.lookup
  (getItem_tuple (j:=j) (Q:=λr s'=>r=w/\EP X pins σ Q r s') pl ∅ ∅ (by rw[Õ,← hl];exact h1) (by simpa using ew) ⟨rfl,fin⟩) hs
theorem f71(its:List Ã)(n j:Nat)(u:Ã):À4 (·.setIfInBounds j u) { cls:=.type "list",data:=.seq its.toArray n }={ cls:=.type "list",data:=.seq (its.set j u).toArray n }:=by
 simp[À4]
theorem Inv.lst{pins:List (Æ × Obj)}{σ:St}{H:Hp}{s:Å}{p:Æ}{xs:List V}(I:Inv X pins σ H s)(h:H p=some (.lst xs)) :
  ∃ (its:List Ã) (n:Nat),Vals xs its/\s.heap.get? p=some { cls:=.type "list",data:=.seq its.toArray n }/\xs.length<=sizeLine:=by
 obtain⟨z,its,n,r,e⟩:=I.hok p _ h;exact⟨its,n,r,e,z⟩
theorem Inv.d42{pins:List (Æ × Obj)}{σ:St}{H:Hp}{s:Å}{p:Æ}{xs ys:List V}{its its':List Ã}{n n':Nat}{f:Obj->Obj}(I:Inv X pins σ H s)(h:H p=some (.lst xs))
  (ho:s.heap.get? p=some { cls:=.type "list",data:=.seq its.toArray n }) (hf:f { cls:=.type "list",data:=.seq its.toArray n }={ cls:=.type "list",data:=.seq its'.toArray n' }) (r:Vals ys its') (hz:ys.length<=sizeLine) (t:Nat) :
  Inv X pins σ (upd H p (.lst ys)) { s with heap:=s.heap.update p f,toks:=t }:=by
 have e:(s.heap.update p f).get? p=some { cls:=.type "list",data:=.seq its'.toArray n' }:=by
  rw[Þ2 f ho (by rw[hf] <;> rfl),hf]
 refine I.write (x:=p) (e:=p) (by rw[h];trivial) (.inl rfl) (λb u hb q=>(Ý4 _ _ (Á0 hb)).trans q) ⟨_,e⟩ ?_
 exact⟨hz,its',n',r,e⟩
def t52:V->V->V->Hp->(Hp->Prop)->Prop:=λo i v H Q=>∃ p xs k j,o=.ref p/\i=.int k/\H p=some (.lst xs)/\ixN xs.length k=some j/\Q (upd H p (.lst (xs.set j v)))
theorem set_list:C42 X t52:=by
 intro pins s σ H o i v ov iv u Q I ro ri rv h;obtain⟨p,xs,k,j,rfl,rfl,hp,hj,q⟩:=h;cases ro;obtain⟨t,rfl⟩:=ri;obtain⟨its,n,r,ho,hz⟩:=I.lst hp;obtain⟨h1,h2,h3,h4⟩:=l51 hj;have hl:=r.length;have hn:=Y70;have I':Inv X pins σ (upd H p (.lst (xs.set j v))) { s with heap:=s.heap.update p (À4 (·.setIfInBounds j u)) } :=
  I.d42 hp ho (f71 its n j u) (r.set rv j) (by rw[Ã8];exact hz) s.toks
 by_cases h0:0<=k
 ·have hk:k.toNat=j:=by
   rw[Ü8 h0 h4] at h1;exact Á2 h1
  exact PySem.W.ki_setAt ho h0 ∅ (by rw[Õ,← hl];exact h4) (by rw[hk];exact⟨_,I',q⟩)
 ·have hk:(k + (its.toArray.size:Int)).toNat=j:=by
   rw[seqIndex_neg ∅ h3] at h1
   rw[Õ,← hl];exact Á2 h1
  exact PySem.W.ki_setBack ho ∅ (by rw[Õ,← hl];exact h3) ∅ (by rw[hk];exact⟨_,I',q⟩)
theorem M50(lo hi:Option Int)(n:Nat):(Í5 lo hi none n).1=((HT.sIx n 0 lo:Nat):Int)/\(Í5 lo hi none n).2.1=((HT.sIx n n hi:Nat):Int)/\(Í5 lo hi none n).2.2=1:=by
 refine⟨?_,?_,rfl⟩
 ·cases lo with
  |none=>simp[Í5,HT.sIx]
  |some i =>
   simp only[Í5,HT.sIx,getD_none,show(1:Int) > 0 by decide,if_true]
   by_cases h:i < 0
   ·simp only[h,if_true] <;> omega
   ·simp only[h,if_false] <;> omega
 ·cases hi with
  |none=>simp[Í5,HT.sIx]
  |some i =>
   simp only[Í5,HT.sIx,getD_none,show(1:Int) > 0 by decide,if_true]
   by_cases h:i < 0
   ·simp only[h,if_true] <;> omega
   ·simp only[h,if_false] <;> omega
theorem G60(its:List Ã)(lo hi:Option Int):slicePick its.toArray lo hi none=((its.drop (HT.sIx its.length 0 lo)).take (HT.sIx its.length its.length hi - HT.sIx its.length 0 lo)).toArray:=by
 obtain⟨h1,h2,h3⟩:=M50 lo hi its.toArray.size;unfold slicePick;rw[h1,h2,h3];simp only[sliceRange_one,pick_run,Õ] <;> rfl
def H42(K:Á):V->Option Int->Option Int->Hp->VK->Prop:=λx lo hi H Q=>∃ a xs,x=.ref a/\SqL K H a xs/\∀ p,H p=none->Q (.ref p) (upd H p (.lst (A51 xs lo hi)))
theorem O01:SlR X (H42 X.K):=by
 intro pins s σ H x v vl vu lo hi sl Q I rx hs pl pu h;obtain⟨a,xs,rfl,hx,q⟩:=h;cases rx;obtain⟨its,r,ht,hz⟩:=I.list hx;have hlen:=r.length;refine⟨"list",_,slot_list_getitem.lookup,ht.isList.typeIs,?_⟩;refine wpAny_getItem_list_slice ht.isList hs pl pu .none (by simp) ?_ (by rw[Õ] <;> omega)
 rw[G60,← hlen];refine⟨.ref s.heap.objs.size,_,I.laid (t':=s.toks) (o:=.lst (A51 xs lo hi)) (λb ob q=>Ä _ q) (Ì _) ?_,rfl,q _ (I.hok.fresh (Ì _))⟩;exact⟨Ò (z20 xs lo hi) hz,_,0,(r.drop (HT.sIx xs.length 0 lo)).take (HT.sIx xs.length xs.length hi - HT.sIx xs.length 0 lo),Ï _ rfl⟩
theorem M60:e60 X (.builtin "len") (λxs H Q=>∃ p ys,xs=[.ref p]/\(SqL X.K H p ys∨SqT X.K H p ys)/\Q (.int ys.length) H):=by
 intro pins s σ H xs us Q I r h;obtain⟨p,ys,rfl,hq,q⟩:=h;obtain⟨u,rfl,rx⟩:=vals1 r;cases rx;have hn:=Y70;rcases hq with hq | hq
 ·obtain⟨its,r',pl,hz⟩:=I.list hq;have hlen:=r'.length;exact Calls.call_len_list pl.isList (by simp only[Õ] <;> omega) ⟨.int ys.length,H,I.tok _,⟨s.toks + 1,by rw[Õ,hlen]⟩,q⟩
 ·obtain⟨its,r',pl,hz⟩:=I.tuple hq;have hlen:=r'.length;exact len_tuple pl (by simp only[Õ] <;> omega) ⟨.int ys.length,H,I.tok _,⟨s.toks + 1,by rw[Õ,hlen]⟩,q⟩
theorem M70:e60 X (.type "list") (λxs H Q=>∃ p ys,xs=[.ref p]/\(SqL X.K H p ys∨SqT X.K H p ys)/\∀ l,H l=none->Q (.ref l) (upd H l (.lst ys))):=by
 intro pins s σ H xs us Q I r h;obtain⟨p,ys,rfl,hq,q⟩:=h;obtain⟨u,rfl,rx⟩:=vals1 r;cases rx;have fin:∀ (its:List Ã),Vals ys its->ys.length<=sizeLine->∀ (h':ë) (c':Nat),(∀ b o',s.heap.get? b=some o'->h'.get? b=some o') ->
   h'.get? s.heap.objs.size=some { cls:=.type "list",dict:=none,data:=.seq its.toArray c',slots:=#[] }->EP X pins σ Q (.ref s.heap.objs.size) { s with heap:=h' }:=λits r' hz h' c' kp e =>
  ⟨.ref s.heap.objs.size,_,I.laid (t':=s.toks) kp (Ì _) (show h00 X.prog X.w _ h' _ (.lst ys) from⟨hz,its,c',r',e⟩),rfl,q _ (I.hok.fresh (Ì _))⟩
 rcases hq with hq | hq
 ·obtain⟨its,r',pl,hz⟩:=I.list hq;have hlen:=r'.length;obtain⟨o,ho,hc,n,hd⟩:=pl.isList;exact call_list_seq p (.inl rfl) ho hc hd (λh' c' kp e=>fin its r' hz h' c' kp e) (by simp only[Õ] <;> omega)
 ·obtain⟨its,r',pl,hz⟩:=I.tuple hq;have hlen:=r'.length;obtain⟨o,ho,hc,n,hd⟩:=pl;exact call_list_seq p (.inr rfl) ho hc hd (λh' c' kp e=>fin its r' hz h' c' kp e) (by simp only[Õ] <;> omega)
theorem G70:e60 X (.type "tuple") (λxs H Q=>∃ p ys,xs=[.ref p]/\((SqL X.K H p ys/\∀ l,H l=none->Q (.ref l) (upd H l (.tup ys)))∨(SqT X.K H p ys/\Q (.ref p) H))):=by
 intro pins s σ H xs us Q I r h;obtain⟨p,ys,rfl,h⟩:=h;obtain⟨u,rfl,rx⟩:=vals1 r;cases rx;rcases h with ⟨hq,q⟩ | ⟨hq,q⟩
 ·obtain⟨its,r',pl,hz⟩:=I.list hq;have hlen:=r'.length;refine call_tuple_list pl.isList (λh' kp=>?_) (by simp only[Õ] <;> omega)
  have I1:Inv X pins σ H { s with heap:=h' }:=I.kept (t':=s.toks) kp;have I2:Inv X pins σ (upd H h'.objs.size (.tup ys)) { s with heap:=h'.push { cls:=.type "tuple",data:=.seq its.toArray } } :=
   I1.laid (t':=s.toks) (λb o e=>Ä _ e) (Ì _) (show h00 X.prog X.w _ _ _ (.tup ys) from⟨hz,its,r',Ï4.new _ _⟩)
  exact⟨.ref h'.objs.size,_,I2,rfl,q _ (I1.hok.fresh (Ì _))⟩
 ·obtain⟨its,r',pl,hz⟩:=I.tuple hq;exact call_tuple_same pl ⟨.ref p,H,I,rfl,q⟩
def tyV(K:Á)(T:String)(x:V)(H:Hp):Prop:=match x with
 |.str _=>T="str"|.int _=>T="int"
 |.ref p=>(T="list"/\∃ xs,SqL K H p xs)∨(T="tuple"/\∃ o,K.lookup p=some o/\o.cls=.type "tuple"/\o.dict=none) ∨
   (T="dict"/\((∃ kvs,H p=some (.dK kvs))∨∃ kvs,H p=some (.dT kvs)))∨(T="set"/\∃ S n,H p=some (.set S n))
 |_=>False
theorem d52{pins:List (Æ × Obj)}{σ:St}{H:Hp}{s:Å}{T:String}{x:V}{v:Ã}(I:Inv X pins σ H s)(r:RelV x v)(ty:tyV X.K T x H) :
  s.TypeIs v T/\∀ a,v=.ref a->∃ ob,s.heap.get? a=some ob/\ob.dict=none:=by
 cases x with
 |str z =>
  obtain⟨t,rfl⟩:=r;cases (show T="str" from ty);exact⟨typeIs_str s z t,λ_ e=>nomatch e⟩
 |int i =>
  obtain⟨t,rfl⟩:=r;cases (show T="int" from ty);exact⟨Ù7 s i t,λ_ e=>nomatch e⟩
 |ref p =>
  cases r;rcases ty with ⟨rfl,xs,hq⟩ | ⟨rfl,o,hk,hc,hd⟩ | ⟨rfl,hk⟩ | ⟨rfl,S,n,hk⟩
  ·obtain⟨its,_,pl,_⟩:=I.list hq;refine⟨pl.isList.typeIs,λa e=>?_⟩;cases e;obtain⟨o,n,e,c,hd,_⟩:=pl;exact⟨o,e,hd⟩
  ·refine⟨⟨o,I.kIn p o hk,hc⟩,λa e=>?_⟩;cases e;exact⟨o,I.kIn _ o hk,hd⟩
  ·have z:∃ o,s.heap.get? p=some o/\o.ExactDict:=by
    rcases hk with ⟨kvs,hk⟩ | ⟨kvs,hk⟩
    ·obtain⟨_,_,_,_,o,_,_,e,ex,_⟩:=I.hok p _ hk;exact⟨o,e,ex⟩
    ·obtain⟨_,_,_,_,o,_,_,e,ex,_⟩:=I.hok p _ hk;exact⟨o,e,ex⟩
   obtain⟨o,e,ex⟩:=z;refine⟨⟨o,e,ex.1⟩,λa e2=>?_⟩;cases e2;exact⟨o,e,ex.2.1⟩
  ·obtain⟨o,_,_,_,e,ex,_⟩:=I.hok p _ hk;refine⟨⟨o,e,ex.1⟩,λa e2=>?_⟩;cases e2;exact⟨o,e,ex.2.1⟩
 |_=>exact ý ty
def O52(K:Á)(T:String)(r:V->List V->Hp->VK->Prop)(to:TE):TE:=λσ H Q=>to σ H λx H1=>tyV K T x H1/\r x [] H1 Q
def tBM(K:Á)(T:String)(r:V->List V->Hp->VK->Prop)(to:TE)(t:TA):TE:=λσ H Q=>to σ H λx H1=>tyV K T x H1/\t σ H1 λxs H2=>r x xs H2 Q
variable {o e:Ñ}{es:List Ñ}{to:TE}{t:TA}{name:Str}{apos cpos:Pos}{T id:String}{r:V->List V->Hp->VK->Prop}
theorem O11(pa:PlainAttrs T)(slot:Slot T name id)(hty:typeOf (.builtin id)=pure (.type "method_descriptor"))(hm:MtR X id r)(ho:PE X o to)(ha:PA X (e::es) t)
  (hbase:attributeBase o name X.env (eval o X.env)=eval o X.env:=by rfl)
  (hfew:((Ó9 cpos (û (e::es) X.env)).all (λx=>!x.1)&&(backToKw cpos (keywordEach [] X.env)).all (λx=>x.1.isSome)
   &&decide ((e::es).length + ([]:List Keyword).length + (if ([]:List Keyword).isEmpty then 0 else 1) < 30))=true:=by rfl)
  (hline:(apos.endLine == cpos.line)=true:=by rfl) (hs:û (e::es) X.env=(false,eval e X.env)::û es X.env:=by rfl) (hplain:(Ó9 cpos (û es X.env)).any (·.1)=false:=by rfl) :
  PE X (.Call (.Attribute o name apos) (e::es) [] cpos) (tBM X.K T r to t):=by
 intro pins s σ H Q I h;refine wpAny_Call_method_late hbase hfew hline rfl (thn (ho pins s σ H _ I h) λv s1 ⟨x,H1,I1,r1,ty,q1⟩=>?_);obtain⟨h1,h2⟩:=d52 I1 r1 ty;refine⟨T,id,pa,slot,hty,h1,h2,?_⟩;have hA:=ha cpos pins s1 σ H1 _ I1 q1;rw[hs] at hA ⊢;refine Calls.callWith_builtin (by show(false || (Ó9 cpos (û es X.env)).any (·.1))=false;rw[hplain] <;> rfl) (Þ3 ?_)
 exact thn hA λus s2 ⟨vs,H2,I2,r2,q2⟩=>hm pins s2 σ H2 x vs v us Q I2 r1 r2 q2
end
def MtM(X:Cx)(id:String)(r:V->List V->Hp->VK->Prop):Prop :=
 ∀ (pins:List (Æ × Obj)) (s:Å) (σ:St) (H:Hp) (x:V) (xs:List V) (v:Ã) (us:List Ã) (Q:VK),Inv X pins σ H s->RelV x v->Vals xs us->r x xs H Q ->
  Ó (Ü X.prog X.w) X.A (call (.builtin id) (v::us)) (EP X pins σ Q) X.xe s
theorem Vals.one:∀ {x:V}{us:List Ã},Vals [x] us->∃ u,us=[u]/\RelV x u
 |_,_,.cons r .nil=>⟨_,rfl,r⟩
theorem Vals.eraseIdx:∀ {xs:List V}{us:List Ã} (i:Nat),Vals xs us->Vals (xs.eraseIdx i) (us.eraseIdx i)
 |_,_,_,.nil=>.nil|_,_,0,.cons _ t=>t|_,_,i + 1,.cons r t=>.cons r (Vals.eraseIdx i t)
theorem Vals.reverse{xs:List V}{us:List Ã}(h:Vals xs us):Vals xs.reverse us.reverse:=by
 induction h with
 |nil=>exact .nil|cons r t ih=>rw[Ò7,Ò7];exact Vals.append ih (.cons r .nil)
theorem Vals.rep{xs:List V}{us:List Ã}(h:Vals xs us):∀ k:Nat,Vals (ï k xs).flatten (ï k us).flatten
 |0=>.nil
 |k + 1=>by
  rw[Å7,Å7,Ê9,Ê9];exact Vals.append h (Vals.rep h k)
theorem M80{α:Type}:∀ (l:List α) (i:Nat),(l.eraseIdx i).length<=l.length
 |[],_=>Ì _|_::_,0=>le_succ _|_::r,i + 1=>Ú0 (M80 r i)
theorem foldl_rep(its:List Ã):∀ (k:Nat) (acc:List Ã),
  foldl (λx1 x2=>x1++x2) acc.toArray (ï k its.toArray)=(acc++(ï k its).flatten).toArray
 |0,acc=>by simp
 |k + 1,acc=>by
  have e:acc.toArray++its.toArray=(acc++its).toArray:=by simp
  have e2:(acc++its)++(ï k its).flatten=acc++(ï (k + 1) its).flatten:=by
   rw[Å7,Ê9,Æ7]
  rw[← e2,← foldl_rep its k (acc++its),← e,Å7,É6]
section
variable {X:Cx}{pins:List (Æ × Obj)}{σ:St}{H:Hp}{s:Å}{l b:Æ}{xs ys zs:List V}
theorem Inv.q62{its its':List Ã}{n:Nat}{f:Array Ã->Array Ã}{t':Nat}(I:Inv X pins σ H s)(hH:H l=some (.lst xs))
  (e:s.heap.get? l=some { cls:=.type "list",data:=.seq its.toArray n }) (hf:f its.toArray=its'.toArray) (hv:Vals ys its') (hz:ys.length<=sizeLine) :
  Inv X pins σ (upd H l (.lst ys)) { s with heap:=s.heap.update l (À4 f),toks:=t' }:=by
 have q:=PySem.IsL.update e f;rw[hf] at q;refine I.write (x:=l) (e:=l) (by rw[hH];exact trivial) (.inl rfl) (λb' u hb hu=>(Ý4 s.heap (À4 f) (Á0 hb)).trans hu) ⟨_,q⟩ ?_
 exact⟨hz,its',_,hv,q⟩
theorem Inv.t62{its:List Ã}{t':Nat}(I:Inv X pins σ H s)(hv:Vals ys its)(hz:ys.length<=sizeLine) :
  Inv X pins σ (upd H s.heap.objs.size (.lst ys)) { s with heap:=s.heap.push { cls:=.type "list",data:=.seq its.toArray },toks:=t' } :=
 I.laid (λ_ _ q=>Ä _ q) (Ì _) ⟨hz,its,0,hv,Ï _ rfl⟩
theorem Inv.fresh(I:Inv X pins σ H s):H s.heap.objs.size=none:=I.hok.fresh (Ì _)
theorem Inv.d62(I:Inv X pins σ H s)(hH:H l=some (.lst xs)):xs.length<=sizeLine/\∃ (its:List Ã) (n:Nat),Vals xs its/\xs.length=its.length/\s.heap.get? l=some { cls:=.type "list",data:=.seq its.toArray n }:=by
 obtain⟨z,its,n,r,e⟩:=I.hok l _ hH;exact⟨z,its,n,r,r.length,e⟩
theorem A61{n:Nat}(h:n<=sizeLine):Ì6 n=false:=by
 unfold Ì6;exact decide_eq_false ∅
end
section
variable {X:Cx}
def l81:V->List V->Hp->VK->Prop:=λx vs H Q=>∃ l xs y,x=.ref l/\vs=[y]/\H l=some (.lst xs)/\xs.length < sizeLine/\Q .non (upd H l (.lst (xs++[y])))
theorem M90:MtM X "list.append" l81:=by
 intro pins s σ H x vs v us Q I rx rv h;obtain⟨l,xs,y,rfl,rfl,hH,hz,q⟩:=h;cases rx;obtain⟨u,rfl,ru⟩:=rv.one;obtain⟨z,its,n,r,hl,e⟩:=I.d62 hH;refine Ç4 F.slot_list_append ⟨_,e,rfl⟩ F.entry_list_append (F.args_list_append_2 _ _) (PySem.list_append l its.toArray n u (by rw[Õ];omega)) ⟨e,?_⟩
 refine⟨.non,_,I.q62 (its':=its++[u]) hH e (by simp) (r.append (.cons ru .nil)) ?_,rfl,q⟩
 rw[õ,Ý8];omega
def J61:V->List V->Hp->VK->Prop:=λx vs H Q=>∃ l xs i k y,x=.ref l/\vs=[.int i]/\H l=some (.lst xs)/\-(2 ^ 63)<=i/\i < 2 ^ 63/\seqIndex? i xs.length=some k/\xs[k]?=some y/\Q y (upd H l (.lst (xs.eraseIdx k)))
theorem A71:MtM X "list.pop" J61:=by
 intro pins s σ H x vs v us Q I rx rv h;obtain⟨l,xs,i,k,y,rfl,rfl,hH,h1,h2,hk,hy,q⟩:=h;cases rx;obtain⟨u,rfl,ru⟩:=rv.one;obtain⟨t,rfl⟩:=ru;obtain⟨z,its,n,r,hl,e⟩:=I.d62 hH;obtain⟨w,hw,rw'⟩:=r.get hy;refine Ç4 F.slot_list_pop ⟨_,e,rfl⟩ F.entry_list_pop (F.args_list_pop_2 _ _)
  (MeetsSeq.list_pop_at l its.toArray n i t k w (fitsIndex_both h1 h2) (by rw[Õ,← hl];exact hk) (by rw[← ü];exact hw) (by rw[Õ];omega)) ⟨e,?_⟩
 refine⟨y,_,I.q62 (its':=its.eraseIdx k) hH e ?_ (r.eraseIdx k) ?_,rw',q⟩
 ·show its.toArray.eraseIdxIfInBounds k=(its.eraseIdx k).toArray;rw[List.eraseIdxIfInBounds_toArray]
 ·have:=M80 xs k;omega
def H52:R2:=λx y H Q=>∃ l b xs zs,x=.ref l/\y=.ref b/\H l=some (.lst xs)/\H b=some (.lst zs)/\xs.length + zs.length<=sizeLine/\∀ p,H p=none->Q (.ref p) (upd H p (.lst (xs++zs)))
theorem l91:OpR X (Ä7 .Add) H52:=by
 intro pins s σ H x y v u Q I rx ry h;obtain⟨l,b,xs,zs,rfl,rfl,hH,hB,hz,q⟩:=h;cases rx;cases ry;obtain⟨z,its,n,r,hl,e⟩:=I.d62 hH;obtain⟨z2,its2,n2,r2,hl2,e2⟩:=I.d62 hB;refine PySem.P.add_list e e2 ?_ (by rw[Õ,Õ];omega)
 have ea:its.toArray++its2.toArray=(its++its2).toArray:=by simp
 rw[ea];exact⟨.ref _,_,I.t62 (t':=s.toks) (r.append r2) (by rw[õ];omega),rfl,q _ I.fresh⟩
theorem len_rep{α:Type}(xs:List α)(k:Nat):(ï k xs).flatten.length=k * xs.length:=by
 induction k with
 |zero=>simp|succ k ih=>rw[Å7,Ê9,õ,ih,Nat.succ_mul,Nat.add_comm]
end
end L2
namespace Att
open PySem PySem.W PySem.Calls PyProof.Rows
theorem z30{P:Params}{h:ë}:∀ (ns:List Int) (vs:List Ã),WellAll P h vs (ns.map WData.int)->Ê4 vs ns:=by
 intro ns
 induction ns with
 |nil =>
  intro vs w;rw[map_nil] at w;cases w;exact .nil
 |cons n ns ih =>
  intro vs w;rw[Ç0] at w;cases w with
  |cons a b =>
   cases a;exact .cons _ _ (ih _ b)
theorem m01{l:OpenLaw}{n:Nat}(hn:l.most=some n){P:Params}{h:ë}{args:List WData}{vals:List Ã}
  (hpre:l.row.toRowW.claim.pre args=true) (hwl:WellAll P h vals args) :
  ∃ a vs ns,vals=[Á3 a]/\args=[WData.list (ns.map WData.int)]/\h.get? a=some { cls:=.type "list",data:=.seq vs.toArray }/\Ê4 vs ns/\ns.length<=n:=by
 have hsh:WShape.hasAll [] args [.list .int]=true:=(pre_splitW hpre).1;have hc:l.pre.holds [] { args:=args }=true:=(pre_splitW hpre).2;obtain⟨d,r,rfl,h1,h2⟩:=hasAllW_cons hsh;obtain rfl:=hasAllW_nil h2;obtain⟨xs,rfl,h3⟩:=hasW_list h1;obtain⟨ns,rfl⟩:=items_int h3;have hlen:ns.length<=n:=by
  unfold OpenLaw.pre at hc;have h4:(WTm.not (.lt (.lit (.int (n:Int))) (.len (.arg 0)))).holds [] { args:=[.list (ns.map .int)] }=true:=by
   have h4:=(holds_andW hc).1;rw[hn] at h4;exact h4
  have h5:=condW_of h4 (w_not (w_lt w_lit (w_len_list (w_arg rfl))));rw[Ç] at h5;refine Nat.le_of_not_lt λq=>?_;have q':(n:Int) < ((ns.length:Nat):Int):=by omega
  first
   |(rw[decide_eq_true q'] at h5;exact absurd h5 (-0))
   |(simp at h5;omega)
 cases hwl with
 |cons w1 w2 =>
  cases w2;cases w1 with
  |list ho hall=>exact⟨_,_,ns,rfl,rfl,ho,z30 ns _ hall,hlen⟩
theorem m21(l:OpenLaw)(args:List WData):l.row.toRowW.claim.post args (.bool true) args=true :=
 postW_of (r:=l.row.toRowW) (X:=(true == true))
  (show WShape.has [] (.bool true) .bool=true by first | rfl | decide | simp[WShape.has,WShape.arms,WShape.armsAll])
  (show(WTm.eq .res (.lit (.bool true))).value [] { args:=args,res:=some (.bool true),after:=args }=some (.bool (true == true)) from w_eq_bool (w_res rfl) w_lit) rfl
theorem S80{l:OpenLaw}{n:Nat}{q:ß}{loose:List Str}{XP:(Str->Option Ã)->ë->Prop}{YP:ò->ë->Prop}{d:DefRec}
  (hn:l.most=some n) (hdf:d.params.defaults=[])
  (call:∀ (w:ò) (s₀ s₁:Å) (mg mb:Str->Option Ã) (fa:Æ) (o:Obj) (pm cd doc:Ã) (a:Æ) (vs:List Ã) (ns:List Int),
   Ground q loose [] XP w s₀ mg mb s₁.heap->YP w s₁.heap ->
   s₁.heap.get? fa=some o->o.data=.func (docDef d.name d.params d.body d.scope pm cd doc)->s₁.heap.CodeRec cd d.name->mg d.name=some (.ref fa) ->
   s₁.heap.get? a=some { cls:=.type "list",data:=.seq vs.toArray }->Ê4 vs ns->ns.length<=n->s₁.gens=#[] ->
   Í3 (Ü l.prog w) Û0 (.call (.ref fa) ⟨[.ref a],[]⟩) (λr s'=>r=.ok (.ret (.bool true))/\OldK s₁.heap s'.heap/\s'.os=s₁.os/\Ò1 s'.gens) s₁) :
  WalkO q loose XP YP l.row.toRowW d [] (λf vs=>PySem.call f vs):=by
 intro w s₀ s₁ mg mb G Y fa o pm cd doc dV kV ho hd hcd hD hmg hg args vals as hpre hlay hrd hwl hlo;obtain rfl:dV=.none:=Dflts.none hD hdf;obtain rfl:kV=.none:=Dflts.noKw hD;obtain⟨a,vs,ns,rfl,rfl,hobj,hints,hlen⟩:=m01 hn hpre hwl;refine enter_call (Ë7 (call w s₀ s₁ mg mb fa o pm cd doc a vs ns G Y ho (fd_plain hd) hcd hmg hobj hints hlen hg) λr s' hq=>?_);obtain⟨rfl,h2,h3,h4⟩:=hq;exact⟨.inl ⟨.bool true,.bool true,[],rfl,λ_=>rfl,.bool true,m21 l _,λ_=>⟨Õ5.nil,λ_ hm=>(nomatch hm)⟩⟩,h2,h3,h4⟩
end Att
namespace L2
open PySem PySem.Spec PyProof.Rows
theorem N00:∀ {vs:List Ã}{ns:List Int},Ê4 vs ns->Vals (ns.map V.int) vs
 |_,_,.nil=>.nil|_,_,.cons n t h=>.cons ⟨t,rfl⟩ (N00 h)
def G80(s:Å0):Arguments:=match s with
 |.FunctionDef _ a _ _ _ _ _ _ _ _=>a|_=>{ posonlyargs:=[],args:=[],vararg:=none,kwonlyargs:=[],kw_defaults:=[],kwarg:=none,defaults:=[] }
def h80(s:Å0):List Stmt:=match s with
 |.FunctionDef _ _ b _ _ _ _ _ _ _=>b|_=>[]
def b60(s:Å0):Scope:=match s with
 |.FunctionDef _ _ _ _ _ _ sc _ _ _=>sc|_=>{ kind:=.function,names:=[],isGenerator:=false,isCoroutine:=false }
abbrev CX0:CXT:=λ_ _ _ _ _ _=>False
structure Fun(K:PySem.W.Frag)(x qual:Str)(st:Stmt)(f:Addr)(fd:FuncData):Prop where
 ex:∃ (oc:Value) (od:Option Addr) (kV doc pm:Value) (an:Option Addr) (cdv ct:Value) (osl:Array (Option Value)),
  fd=fnOf x qual (G80 st) (h80 st) (b60 st) .none kV doc pm an cdv ct/\K.lookup f=some ⟨oc,od,.func fd,osl⟩/\PySem.W.codeIn K cdv qual=true
 kp:PySem.W.keepIn K (.ref f)=true
section
variable {P:ß}{w:ò}{K:Á}{mg:Str->Option Ã}{base:ë}
theorem Fun.binds{x qual:Str}{st:Å0}{f:Æ}{fd:Ä8}{ps:List Str}(F:Fun K x qual st f fd)
  (h:∀ (kV doc pm:Ã) (an:Option Æ) (cdv ct:Ã) (us:List Ã),us.length=ps.length->bindArgs (fnOf x qual (G80 st) (h80 st) (b60 st) .none kV doc pm an cdv ct) ⟨us,[]⟩=pure (ps.zip us)):Binds K fd ps []:=by
 obtain⟨oc,od,kV,doc,pm,an,cdv,ct,osl,rfl,lk,hcd⟩:=F.ex;exact .all (h kV doc pm an cdv ct)
end
theorem O21{A:ù}{k:Nat}(hr:x40 k A):A.units + 1 < cLine:=Ã0 (Nat.add_le_add_left (by decide:1<=64) _) hr.units
section
variable {X:Cx}
theorem pv(i:Nat){x:Str}{pos:Pos}(hN:X.N[i]?=some x:=by rfl)(hv:Vis X.env.scope x:=by first | exact Ñ1 rfl | exact Ô6 (Ñ1 rfl) | exact Ô6 (Ô6 rfl))(hd:(x == ("__debug__":Str))=false:=by decide)
  (hcd:(x == ("__classdict__":Str))=false:=by decide):PE X (.Name x pos) (Z31 i):=m50 hN hv hd hcd
end
theorem H62{A B:Prop}(h:B):if false=true then A else B:=by
 rw[if_neg Ð];exact h
theorem H72{c A B:Prop}[Decidable c](h1:c->A)(h2:¬ c->B):if c then A else B:=by
 by_cases h:c
 ·rw[if_pos h];exact h1 h
 ·rw[if_neg h];exact h2 h
def a30(H H':Hp):Prop:=∀ b o,H b=some o->H' b=some o
theorem a30.refl(H:Hp):a30 H H:=λ_ _ h=>h
theorem a30.trans{H H1 H2:Hp}(a:a30 H H1)(b:a30 H1 H2):a30 H H2:=λc o h=>b c o (a c o h)
end L2
set_option maxHeartbeats 4000000
namespace L2
open PySem
abbrev NoX:Ã->Å->Prop:=λ_ _=>False
theorem G90(env:Env):∀ (names:List (Str × Ê1)) (acc:List (Str × Æ)),(∀ y∈names,y.2=.free->∃ c,env.cells.lookup y.1=some c)->(∀ x c,acc.lookup x=some c->env.cells.lookup x=some c) ->
  ∃ cl:List (Str × Æ),(forIn names acc λ(x:Str × Ê1) (r:List (Str × Æ))=>(if (x.2 == .free)=true then do let c ← cellOf env x.1;pure (Þ ((x.1,c)::r)) else pure (Þ r):Sem (ForInStep (List (Str × Æ)))))=pure cl /\
   (∀ x c,cl.lookup x=some c->env.cells.lookup x=some c)/\(∀ x c,acc.lookup x=some c->∃ c',cl.lookup x=some c')/\(∀ y∈names,y.2=.free->∃ c,cl.lookup y.1=some c)
 |[],acc,_,ha=>⟨acc,by simp,ha,λx c e=>⟨c,e⟩,λy hy=>absurd hy (by simp)⟩
 |(n,k)::r,acc,hf,ha=>by
  by_cases hk:k=.free
  ·subst hk;obtain⟨c,hc⟩:=hf (n,.free) É rfl;have hcell:cellOf env n=pure c:=by unfold cellOf;rw[hc]
   obtain⟨cl,e,h1,h2,h3⟩:=G90 env r ((n,c)::acc) (λy hy=>hf y (Ê _ hy)) (λx c' e=>by
    rw[À1] at e;by_cases hx:(x == n)=true
    ·rw[hx] at e;have:x=n:=by simpa using hx
     subst this;cases e;exact hc
    ·rw[show(x == n)=false by simpa using hx] at e
     exact ha x c' e)
   refine⟨cl,?_,h1,λx c' e'=>?_,λy hy hyk=>?_⟩
   ·rw[Ì1];simp only[beq_self_eq_true,if_true,hcell,pure_bind];exact e
   ·by_cases hx:(x == n)=true
    ·exact h2 x c (by rw[À1,hx])
    ·exact h2 x c' (by rw[À1,show(x == n)=false by simpa using hx];exact e')
   ·rcases è.mp hy with rfl | hy
    ·exact h2 n c (by simp[À1])
    ·exact h3 y hy hyk
  ·obtain⟨cl,e,h1,h2,h3⟩:=G90 env r acc (λy hy=>hf y (Ê _ hy)) ha;refine⟨cl,?_,h1,h2,λy hy hyk=>?_⟩
   ·rw[Ì1];have hb:((k == ó)=true)=False:=by simpa using hk
    simp only[hb,if_false,pure_bind];exact e
   ·rcases è.mp hy with rfl | hy
    ·exact absurd hyk hk
    ·exact h3 y hy hyk
theorem S90(hf:∀ y∈scope.names,y.2=.free->∃ c,env.cells.lookup y.1=some c) :
  ∃ cl:List (Str × Æ),closureFor scope env=pure cl/\(∀ x c,cl.lookup x=some c->env.cells.lookup x=some c)/\(∀ y∈scope.names,y.2=.free->∃ c,cl.lookup y.1=some c):=by
 obtain⟨cl,e,h1,_,h3⟩:=G90 env scope.names [] hf (λx c e=>by simp at e)
 refine⟨cl,?_,h1,h3⟩;simp only[closureFor];exact(congrArg (λt=>t >>= λr=>(pure r:Sem _)) e).trans (by simp)
section
variable {P:ß}{w:ò}{A:ù}{R:Result->Å->Prop}{s:Å}
theorem m31{el tg src:Ñ}{tests:List Ñ}{sc:ú}{ps:Pos}{itv av:Ã}{en:Env}(J:Nat->Å->Prop)
  (turn:∀ n s,J n s->Ó (Ü P w) A (pyNext itv) (λr s1=>match r with
   |none=>R (.ok .next) s1
   |some v=>Ó (Ü P w) A (Ý1 tg itv v) (λ_ s2=>Ó (Ü P w) A (Ö5 tg en v) (λ_ s3 =>
     Ó (Ü P w) A (forIn tests true λc r=>if r=true then do let ok ← isTrue c en (eval c en);pure (Þ ok) else pure (Þ r)) (λok s4 =>
      if ok=true then Ó (Ü P w) A (eval el en) (λx s5 =>
       Ó (Ü P w) A (call (.builtin "list.append") [av,x]) (λ_ s6=>∃ m,m < n/\J m s6) NoX s5) NoX s4
      else ∃ m,m < n/\J m s4) NoX s3) NoX s2) NoX s1) NoX s)
  (n:Nat) (h:J n s) :
  Í3 (Ü P w) A (.compLoop (.ListComp el [⟨tg,src,tests,0⟩] sc ps) 0 itv av en) R s:=by
 refine codeAny_loop rfl J (λn s hI=>?_) n h;show Ó _ A ((compTurn (.ListComp el [⟨tg,src,tests,0⟩] sc ps) 0 itv av en).onRaise (λx=>do noteFrame x en;theTreesLotGoes x)) _ _ s;refine wpAny_noted ?_;rw[compTurn_list];refine À (Ø9 (À (Â5 (turn n s hI) (λr s1 h1=>?_) λ_ _ x=>x.elim)));cases r with
 |none=>exact Ë h1
 |some v =>
  refine À (Â5 h1 (λ_ s2 h2=>?_) λ_ _ x=>x.elim);refine À (Â5 h2 (λ_ s3 h3=>À (Â5 h3 (λok s4 h4=>?_) λ_ _ x=>x.elim)) λ_ _ x=>x.elim);cases ok with
  |false=>exact Ë ⟨rfl,h4⟩|true=>exact À (À (Â5 h4 (λx s5 h5=>À (Â5 h5 (λ_ s6 h6=>Ë (Ë ⟨rfl,h6⟩)) λ_ _ x=>x.elim)) λ_ _ x=>x.elim))
end
open PySem PySem.Spec PyProof.Rows
abbrev c60(X:Cx)(N':List Str)(sc:ú)(cl:List (Str × Æ))(C:Æ)(s:Å)(H:Hp)(fp:List Æ):Cx :=
 { X with N:=N',s₀:=s,H₀:=H,env:=compEnvC sc cl C X.env,outer:=X.stack,stack:=X.stack,ex:=fp,fn:=λ_=>false,pn:=[],xe:=NoX }
def d40(own:List Str)(capt:List (Str × Nat)):List Str:=own++capt.map (·.1)
def q30(own:List Str)(capt:List (Str × Nat))(σ:St):St:=own.map (λ_=>none)++capt.map λp=>(σ[p.2]?).getD none
structure p20(X:Cx)(sc:Scope)(own:List Str)(capt:List (Str × Nat)):Prop where
 kind:sc.kind=.function
 nocell:∀ y∈sc.names,y.2≠.cell
 locs:∀ y∈sc.names,y.2=.local->sc.names.lookup y.1=some .local
 frees:∀ y∈sc.names,y.2=.free->X.env.kindOf y.1=some .cell∨X.env.kindOf y.1=some .free
 captd:∀ p∈capt,X.N[p.2]?=some p.1/\sc.names.lookup p.1=some .free
theorem H00{env:Env}:∀ {names:List (Str × Ê1)}{x:Str}{k:Ê1},
  (names.map λ(n,k)=>if (k == ó&&env.scope.kind == .function&&env.kindOf n == some .cell) then(n,Å3) else(n,k)).lookup x=some k->(k=.cell∨k=.free)->(∀ y∈names,y.2≠.cell)->(x,ó)∈names
 |[],_,_,h,_,_=>by simp at h
 |(n,k0)::r,x,k,h,hk,hn=>by
  have h:Ì4 x ((if (k0 == ó&&env.scope.kind == .function&&env.kindOf n == some .cell)=true then(n,Å3) else(n,k0))::_)=some k:=h;have hn0:k0≠.cell:=hn (n,k0) É;cases hx:x == n with
  |true =>
   have e:x=n:=by simpa using hx
   subst e;by_cases hc:(k0 == ó&&env.scope.kind == .function&&env.kindOf x == some .cell)=true
   ·have:k0=.free:=by
     cases k0 <;> simp_all
    subst this;exact É
   ·rw[if_neg hc] at h;simp only[À1,hx] at h;cases h;rcases hk with hk | hk
    ·exact absurd hk hn0
    ·subst hk;exact É
  |false =>
   have h':(r.map λ(n,k)=>if (k == ó&&env.scope.kind == .function&&env.kindOf n == some .cell) then(n,Å3) else(n,k)).lookup x=some k:=by
    by_cases hc:(k0 == ó&&env.scope.kind == .function&&env.kindOf n == some .cell)=true
    ·rw[if_pos hc] at h;simp only[À1,hx] at h;exact h
    ·rw[if_neg hc] at h;simp only[À1,hx] at h;exact h
   exact Ê _ (H00 h' hk λy hy=>hn y (Ê _ hy))
theorem o00{env:Env}:∀ {names:List (Str × Ê1)}{x:Str},names.lookup x=some .free ->
  (names.map λ(n,k)=>if (k == ó&&env.scope.kind == .function&&env.kindOf n == some .cell) then(n,Å3) else(n,k)).lookup x=some .cell ∨
  (names.map λ(n,k)=>if (k == ó&&env.scope.kind == .function&&env.kindOf n == some .cell) then(n,Å3) else(n,k)).lookup x=some .free
 |[],_,h=>by simp at h
 |(n,k)::r,x,h=>by
  have ih:=@o00 env r x;show Ì4 x ((if (k == ó&&env.scope.kind == .function&&env.kindOf n == some .cell)=true then(n,Å3) else(n,k))::_)=_∨Ì4 x ((if (k == ó&&env.scope.kind == .function&&env.kindOf n == some .cell)=true then(n,Å3) else(n,k))::_)=_;cases hx:x == n with
  |true =>
   simp only[À1,hx] at h;cases h;by_cases hc:(ó == ó&&env.scope.kind == .function&&env.kindOf n == some .cell)=true
   ·rw[if_pos hc];left;simp only[À1,hx]
   ·rw[if_neg hc];right;simp only[À1,hx]
  |false =>
   simp only[À1,hx] at h;by_cases hc:(k == ó&&env.scope.kind == .function&&env.kindOf n == some .cell)=true
   ·rw[if_pos hc];simp only[À1,hx];exact ih h
   ·rw[if_neg hc];simp only[À1,hx];exact ih h
theorem HOk.O31{P:ß}{w:ò}{H:Hp}{h:ë}{D:Æ}{ys:List V}{its:List Ã}{n:Nat}(x:HOk P w H h)(hn:H D=none)(hv:Vals ys its)(hz:ys.length<=sizeLine)
  (ho:h.get? D=some { cls:=.type "list",data:=.seq its.toArray n }):HOk P w (upd H D (.lst ys)) h:=λb u e=>by
 by_cases hb:b=D
 ·subst hb;rw[b20] at e;cases e;exact⟨hz,its,n,hv,ho⟩
 ·rw[a40 hb] at e;exact(x b u e).f01 (λc v _ q=>q) (λc q=>by rw[a40 (a70 q hn)];exact q) λc xs q=>by rw[a40 (a70 q hn)];exact q
def PTs(X:Cx)(tests:List Ñ)(t:TT):Prop :=
 ∀ (pins:List (Æ × Obj)) (s:Å) (σ:St) (H:Hp) (Q:Bool->Hp->Prop),Inv X pins σ H s->t σ H Q ->
  Ó (Ü X.prog X.w) X.A (forIn tests true λc r=>if r=true then do let ok ← isTrue c X.env (eval c X.env);pure (Þ ok) else pure (Þ r)) (TP X pins σ Q) X.xe s
def A81:TT:=λ_ H Q=>Q true H
theorem O41:PTs X [] A81:=λ_ _ _ H _ I h=>wpAny_tests_nil ⟨H,I,h⟩
theorem m41(hc:PT X c t):PTs X [c] t:=λpins s σ H Q I h=>wpAny_tests_one (hc pins s σ H Q I h)
section
variable {X:Cx}{pins:List (Æ × Obj)}{σ:St}{H2:Hp}{s2:Å}{sc:ú}{own:List Str}{capt:List (Str × Nat)}{cl:List (Str × Æ)}{fp:List Æ}{C:Æ}
theorem N10(I:Inv X pins σ H2 s2)(S:p20 X sc own capt)(hcl:∀ x c,cl.lookup x=some c->X.env.cells.lookup x=some c)(hcf:∀ y∈sc.names,y.2=.free->∃ c,cl.lookup y.1=some c)
  (hx:∀ x c,X.env.cells.lookup x=some c->c ∉ fp) {h':ë} (un:∀ c o,s2.heap.get? c=some o->H2 c=none->c ∉ fp->∃ sl,h'.get? c=some { o with slots:=sl }) (m:Str->Option Ã) :
  ∀ (i:Nat) (x:Str) (v:V),(d40 own capt)[i]?=some x->(q30 own capt σ)[i]?=some (some v)->∃ u,RelV v u/\Look (compEnvC sc cl C X.env) h' m x u:=by
 intro i x v e1 e2;unfold d40 at e1;unfold q30 at e2;by_cases hi:i < own.length
 ·rw[Ï3 (by simpa using hi),à] at e2
  cases q:own[i]? with
  |none=>rw[q] at e2;cases e2
  |some y=>rw[q] at e2;cases e2
 ·rw[Ä9 (by simpa using hi),Ç,à] at e2
  rw[Ä9 (by simpa using hi),à] at e1
  cases q:capt[i - own.length]? with
  |none=>rw[q] at e1;cases e1
  |some p =>
   rw[q] at e1 e2;obtain rfl:p.1=x:=Á2 e1;have e3:(σ[p.2]?).getD none=some v:=Á2 e2;have e4:σ[p.2]?=some (some v):=by
    cases z:σ[p.2]? with
    |none=>rw[z] at e3;cases e3
    |some w=>rw[z] at e3;exact congrArg some e3
   obtain⟨hN,hf⟩:=S.captd p (ì q);have hmem:(p.1,ó)∈sc.names:=Á1 hf;have hk:=S.frees _ hmem rfl;obtain⟨m0,_,hl⟩:=I.loc;have vis:Vis X.env.scope p.1:=.inr hk;obtain⟨u,r,lk⟩:=hl p.2 p.1 v hN e4 vis;refine⟨u,r,.inr ⟨?_,?_⟩⟩
   ·exact o00 hf
   ·rcases lk with ⟨hl0,_⟩ | ⟨_,c,hc,o,ho,hd⟩
    ·rcases hk with hk | hk <;> (rw[hk] at hl0;cases hl0)
    ·obtain⟨c',hc'⟩:=hcf _ hmem rfl;have:=hcl _ _ hc';rw[hc] at this;cases this;obtain⟨sl,q'⟩:=un c o ho (I.freeC _ _ hc) (hx _ _ hc);exact⟨c,hc',_,q',hd⟩
end
def O51(X:Cx)(pins:List (Æ × Obj))(σ:St)(R:V->Hp->Prop)(acc:Ã)(C:Æ)(s':Å):Prop :=
 ∃ D H' m',acc=.ref D/\Inv X pins σ H' s'/\f21 X pins H' C/\s'.heap.Ns C m'/\R (.ref D) H'
def A91(J:It)(σ0:St)(H1:Hp)(g:TG)(tt:TT)(te:TE)(Q:VK):Prop:=∃ W:Nat->Nat->List V->Hp->Prop,(∃ m,W 0 m [] H1)/\∀ i m ys H,W i m ys H ->
 (J.stop i H/\∀ p,H p=none->Q (.ref p) (upd H p (.lst ys))) ∨
 (J.go i H/\ys.length < sizeLine/\∃ N:List V->Hp->Prop,(∀ zs H',N zs H'->∃ m',m' < m/\W (i + 1) m' zs H')/\∀ x H',J.yld i H x H'->g x σ0 H' λσ2 H2=>tt σ2 H2 λb H3 =>
  if b=true then te σ2 H3 (λy H4=>N (ys++[y]) H4) else N ys H3)
def O61(own:List Str)(capt:List (Str × Nat))(wi:TI)(g:TG)(tt:TT)(te:TE):TE:=λσ H Q=>wi σ H λJ H1=>A91 J (q30 own capt σ) H1 g tt te Q
section
variable {X:Cx}{pins:List (Æ × Obj)}{σ:St}{H2:Hp}{s2:Å}{sc:ú}{own:List Str}{capt:List (Str × Nat)}{cl:List (Str × Æ)}{el tg src:Ñ}{tests:List Ñ}{ps:Pos}{g:TG}{tt:TT}{te:TE}
theorem D60(hc:X.calm=true)(S:p20 X sc own capt)(hcl:∀ x c,cl.lookup x=some c->X.env.cells.lookup x=some c)(hcf:∀ y∈sc.names,y.2=.free->∃ c,cl.lookup y.1=some c)
  (hg:∀ C s H fp,PG (c60 X (d40 own capt) sc cl C s H fp) tg g) (ht:∀ C s H fp,PTs (c60 X (d40 own capt) sc cl C s H fp) tests tt) (he:∀ C fp,(∀ b∈fp,f21 X pins H2 b)->PE (c60 X (d40 own capt) sc cl C s2 H2 fp) el te)
  {it:Æ}{fp:List Æ}{tn:Nat->ë->Prop}{J:It} (I2:Inv X pins σ H2 s2) (T:Turn X.prog X.w X.K tg J fp it tn) (st2:tn 0 s2.heap) (f2:∀ b∈fp,f21 X pins H2 b)
  {R:VK} (h:A91 J (q30 own capt σ) H2 g tt te R) {RR:Ã->Æ->Result->Å->Prop} (hRR:∀ acc C s',O51 X pins σ R acc C s'->RR acc C (.ok .next) s') {E:Ã->Å->Prop} :
  Ó (Ü X.prog X.w) X.A (newList []) (λacc s3=>Ó (Ü X.prog X.w) X.A (newFunctionEnv sc X.env.globals cl [] X.env.qual none .none (some X.env)) (λce s4 =>
   Í3 (Ü X.prog X.w) X.A (.compStart (.ListComp el [⟨tg,src,tests,0⟩] sc ps) 0 (.ref it) acc { ce with scope:=relabel sc X.env }) (RR acc ce.locals) s4) E s3) E s2:=by
 obtain⟨W,⟨m0,w0⟩,turn⟩:=h;refine À0 (Ö3 S.nocell (by intro y hy;simp at hy) (λh1 hns1 hsb1=>?_) S.kind)
 dsimp only at hns1 hsb1 ⊢;generalize hH3:s2.heap.push { cls:=.type "list",dict:=none,data:=.seq ([]:List Ã).toArray }=h3 at hns1 hsb1 ⊢;have hC:h3.objs.size=s2.heap.objs.size + 1:=by rw[← hH3,É8]
 have below:∀ b,b < s2.heap.objs.size->b≠h3.objs.size/\b≠s2.heap.objs.size:=λb hb=>⟨by omega,by omega⟩
 have hDC:s2.heap.objs.size≠h3.objs.size:=by omega
 have old:∀ b o,s2.heap.get? b=some o->h1.get? b=some o:=λb o e=>hsb1.extBut b o (below b (á e)).1 (Ä _ (hH3 ▸ Ä _ e));have hacc:h1.get? s2.heap.objs.size=some { cls:=.type "list",data:=.seq ([]:List Ã).toArray 0 }:=hsb1.extBut _ _ hDC (Ä _ (hH3 ▸ Ï _ rfl));have fpLt:∀ b∈fp,b < s2.heap.objs.size:=λb hb=>by
  obtain⟨o,e,_⟩:=T.obj _ _ st2 b hb;exact á e
 have celLt:∀ x c,X.env.cells.lookup x=some c->c < s2.heap.objs.size:=λx c e=>by
  obtain⟨v,o,q,_⟩:=I2.cell x c e;exact á q
 have frLt:∀ b∈frs X.stack,b < s2.heap.objs.size:=λb hb=>by
  obtain⟨_,o,q,_⟩:=I2.stack.mem hb;exact á q
 have celFp:∀ x c,X.env.cells.lookup x=some c->c ∉ fp:=λx c e hb=>(f2 c hb).2.2.2.2.1 x c e rfl;have fpFr:∀ b∈fp,b ∉ frs X.stack:=λb hb hf=>by
  rcases è.mp (I2.j81 b hf) with z | z
  ·exact(f2 b hb).2.1 z
  ·exact(f2 b hb).2.2.1 z
 have okX:(c60 X (d40 own capt) sc cl h3.objs.size s2 H2 fp).Ok:=by
  refine⟨I2.ok.mod,S.kind,I2.ok.glob,I2.ok.blt,(by show s2.heap.objs.size<=h3.objs.size;omega),λx y c e1 e2=>I2.ok.inj x y c (hcl x c e1) (hcl y c e2),λx hx=>?_,λx c hx=>(by cases hx),I2.ok.hd,I2.ok.frames,.inl rfl,
   λb hb=>⟨(below b (fpLt b hb)).1,λx c e z=>celFp x c (hcl x c e) (z ▸ hb)⟩,I2.bs,Ò I2.ok.bsz I2.sz,λb o e hb=>?_,fpFr,I2.stack,I2.u50⟩
  ·have hx':(x,ó)∈sc.names:=by
    rcases hx with hx | hx
    ·exact H00 hx (.inl rfl) S.nocell
    ·exact H00 hx (.inr rfl) S.nocell
   exact hcf _ hx' rfl
  ·rcases (f2 b hb).2.2.2.1 with z | z
   ·exact I2.ok.noex b o e z
   ·have l1:b < X.base.objs.size:=á e;have l2:X.base.objs.size<=X.s₀.heap.objs.size:=I2.ok.bsz;have l3:X.s₀.heap.objs.size<=b:=z;exact absurd l1 (Nat.not_lt.mpr (Ò l2 l3))
 have reset:∀ {pl:List (Æ × Obj)}{σ':St}{H':Hp}{s':Å},Inv (c60 X (d40 own capt) sc cl h3.objs.size s2 H2 fp) pl σ' H' s'->Inv (c60 X (d40 own capt) sc cl h3.objs.size s2 H2 fp) pl (q30 own capt σ) H' s':=λ{pl σ' H' s'} I'=>by
  obtain⟨m,hn,_⟩:=I'.loc;refine⟨I'.ok,I'.os,I'.bare,I'.base,⟨m,hn,λi x v e1 e2 _=>N10 I2 S hcl hcf celFp (λc o q n hx=>I'.base.any q n hx) m i x v e1 e2⟩,I'.cell,I'.free,I'.freeC,I'.pin,I'.hok,?_⟩;show(q30 own capt σ).length=(d40 own capt).length;simp[q30,d40]
 have start:Inv (c60 X (d40 own capt) sc cl h3.objs.size s2 H2 fp) [(s2.heap.objs.size,{ cls:=.type "list",data:=.seq ([]:List Ã).toArray 0 })] (q30 own capt σ) H2 { s2 with heap:=h1,toks:=s2.toks + ([]:List (Str × Ã)).length }:=by
  refine⟨okX,rfl,I2.bare,Un.kept old,⟨_,hns1,λi x v e1 e2 _=>N10 I2 S hcl hcf celFp (λc o q _ _=>⟨o.slots,old c o q⟩) _ i x v e1 e2⟩,λx c e=>?_,?_,λx c e=>I2.freeC x c (hcl x c e),λp hp=>?_,I2.hok.kept old,?_⟩
  ·obtain⟨v,q⟩:=I2.cell x c (hcl x c e);exact⟨v,q.keeps old⟩
  ·exact I2.hok.fresh (by show s2.heap.objs.size<=h3.objs.size;omega)
  ·have hp':p=(s2.heap.objs.size,{ cls:=.type "list",data:=.seq ([]:List Ã).toArray 0 }):=by simpa using hp
   subst hp';exact⟨hacc,I2.hok.fresh (Ì _),hDC,λz=>Â4 _ (frLt _ z),λv z=>by cases z⟩
  ·show(q30 own capt σ).length=(d40 own capt).length;simp[q30,d40]
 have y71:∀ {pl:List (Æ × Obj)}{H':Hp},(∀ p∈pl,p.1 ∉ fp)->(∀ b∈fp,H' b=none)->∀ b∈fp,f21 (c60 X (d40 own capt) sc cl h3.objs.size s2 H2 fp) pl H' b:=λ{pl H'} hp hn b hb =>
  ⟨hn b hb,(below b (fpLt b hb)).1,fpFr b hb,.inl hb,λx c e z=>celFp x c (hcl x c e) (z ▸ hb),λp hpp z=>hp p (by simpa using hpp) (z ▸ hb)⟩
 have hDfp:s2.heap.objs.size ∉ fp:=λz=>Â4 _ (fpLt _ z);have loop:∀ s3:Å,s3={ s2 with heap:=h1,toks:=s2.toks + ([]:List (Str × Ã)).length } ->
   Í3 (Ü X.prog X.w) X.A (.compLoop (.ListComp el [⟨tg,src,tests,0⟩] sc ps) 0 (.ref it) (.ref s2.heap.objs.size) (compEnvC sc cl h3.objs.size X.env)) (RR (.ref s2.heap.objs.size) h3.objs.size) s3:=by
  rintro s3 rfl;refine m31 (λn s'=>∃ i ys H' its k,Inv (c60 X (d40 own capt) sc cl h3.objs.size s2 H2 fp) [(s2.heap.objs.size,{ cls:=.type "list",data:=.seq (toArray its) k })] (q30 own capt σ) H' s'/\tn i s'.heap/\(∀ b∈fp,H' b=none)/\Vals ys its/\ys.length<=sizeLine/\W i n ys H') ?_ m0
   ⟨0,[],H2,[],0,start,T.keep _ _ _ st2 λb _ o e=>old b o e,λb hb=>(f2 b hb).1,.nil,Æ6 _,w0⟩
  rintro n s' ⟨i,ys,H',its,k,I',st',fr',hv,hz,w'⟩;have pinD:∀ p∈[((s2.heap.objs.size:Æ),({ cls:=.type "list",data:=.seq (toArray its) k }:Obj))],p.1 ∉ fp:=λp hp=>by
   have hp':p=(s2.heap.objs.size,{ cls:=.type "list",data:=.seq (toArray its) k }):=by simpa using hp
   subst hp';exact hDfp
  rcases turn i n ys H' w' with ⟨stop,q⟩ | ⟨go,hlt,N,hN,step⟩
  ·refine thn (T.done (c60 X (d40 own capt) sc cl h3.objs.size s2 H2 fp) rfl rfl rfl hc i _ s' _ H' NoX I' (y71 pinD fr') st' stop) λr s1 hr=>?_;obtain⟨hr,I1⟩:=hr;subst hr;obtain⟨gD,nD,_,_,_⟩:=I1.pin _ (ã _ É);obtain⟨m',hn',_⟩:=id I1.loc;have un:Un (frs X.stack) fp H2 (upd H' s2.heap.objs.size (.lst ys)) s2.heap s1.heap:=by
    have u:=I1.base;have nD2:H2 s2.heap.objs.size=none:=I2.hok.fresh (Ì _);refine⟨u.keep,u.slot,λb o e n hx=>?_,u.there,λb xs e=>?_,λb o xs e=>?_,λb ps' e=>?_⟩
    ·rw[a40 (below b (á e)).2];exact u.free b o e n hx
    ·rw[a40 (a70 e nD2)];exact u.tups b xs e
    ·rw[a40 (a70 e nD2)];exact u.frzs b o xs e
    ·obtain⟨more,e'⟩:=u.tbls b ps' e;exact⟨more,by rw[a40 (a70 e nD2)];exact e'⟩
   have IX:Inv X pins σ (upd H' s2.heap.objs.size (.lst ys)) s1:=I2.b02 I1.os un (I1.hok.O31 nD hv hz gD) I1.bare λb hb=>⟨(f2 b hb).2.2.2.1,(f2 b hb).2.1,(f2 b hb).2.2.2.2.1,(f2 b hb).2.2.2.2.2⟩;refine hRR _ _ _ ⟨_,_,m',rfl,IX,?_,hn',q _ nD⟩;exact I2.y71 ∅ (by rw[a40 hDC.symm];exact I1.free)
  ·refine thn (T.item (c60 X (d40 own capt) sc cl h3.objs.size s2 H2 fp) rfl rfl rfl hc i _ s' _ H' NoX I' (y71 pinD fr') st' go) λr s1 hr=>?_;obtain⟨u,hr,h4⟩:=hr;subst hr;refine thn h4 λ_ s5 hr5=>?_;obtain⟨x,H5,I5,r5,y5,st5,fr5⟩:=hr5;have I5p:=I5.pinned (y71 pinD fr5) (T.obj _ _ st5);refine thn (hg _ _ _ _ _ s5 _ H5 x u _ I5p r5 (step x H5 y5)) λ_ s6 hr6=>?_;obtain⟨σ6,H6,I6,q6⟩:=hr6;refine thn (ht _ _ _ _ _ s6 σ6 H6 _ I6 q6) λok s7 hr7=>?_;obtain⟨H7,I7,q7⟩:=hr7;have memFp:∀ {pl:List (Æ × Obj)}{b:Æ}{o:Obj},b∈fp->s5.heap.get? b=some o->(b,o)∈([]:List (Æ × Obj))++(pl++z10 fp s5.heap):=λhb e=>ã _ (ã _ (k20 hb e));cases ok with
   |false =>
    rw[if_neg Ð] at q7 ⊢;obtain⟨m',hm,w7⟩:=hN _ _ q7;refine⟨m',hm,i + 1,ys,H7,its,k,reset (I7.y90 λp hp=>I7.pin p (ã _ (Ã7 _ hp))),T.keep _ _ _ st5 λb hb o e=>(I7.pin (b,o) (memFp hb e)).1,λb hb=>?_,hv,hz,w7⟩;obtain⟨o,e,_⟩:=T.obj _ _ st5 b hb;exact(I7.pin (b,o) (memFp hb e)).2.1
   |true =>
    rw[if_pos rfl] at q7 ⊢;refine thn (he _ _ f2 _ s7 σ6 H7 _ I7 q7) λuv s8 hr8=>?_;obtain⟨y,H8,I8,r8,q8⟩:=hr8;obtain⟨m',hm,w8⟩:=hN _ _ q8;obtain⟨gD,nD,dC,dF,_⟩:=I8.pin _ (ã _ (Ã7 _ É));refine append_at gD (λh9 sb hD9=>?_) (by show(toArray its).size<=sizeLine;rw[Õ,← hv.length];exact hz)
    have I8a:Inv (c60 X (d40 own capt) sc cl h3.objs.size s2 H2 fp) (z10 fp s5.heap) σ6 H8 s8:=I8.y90 λp hp=>I8.pin p (ã _ (ã _ hp));have I9:Inv (c60 X (d40 own capt) sc cl h3.objs.size s2 H2 fp) (z10 fp s5.heap) σ6 H8 { s8 with heap:=h9 }:=I8a.turned (t':=s8.toks) (λb o hb e=>(sb.2 b hb).trans e) nD dC (.inr (Ì _))
     (λx c e z=>Â4 s2.heap.objs.size (by have:=celLt x c (hcl x c e);rw[z] at this;exact this)) (λp hp z=>hDfp (z ▸ (L80 (by simpa using hp)).1))
    rw[List.push_toArray] at hD9;refine⟨m',hm,i + 1,ys++[y],H8,its++[uv],k + 1,(reset I9).y90 λp hp=>?_,T.keep _ _ _ st5 λb hb o e=>?_,λb hb=>?_,hv.append (.cons r8 .nil),by rw[õ];exact hlt,w8⟩
    ·have hp':p=(s2.heap.objs.size,{ cls:=.type "list",data:=.seq (toArray (its++[uv])) (k + 1) }):=by simpa using hp
     subst hp';exact⟨hD9,nD,dC,dF,λv z=>by cases z⟩
    ·exact(I9.pin (b,o) (ã _ (k20 hb e))).1
    ·obtain⟨o,e,_⟩:=T.obj _ _ st5 b hb;exact(I9.pin (b,o) (ã _ (k20 hb e))).2.1
 exact codeAny_compStart_list (loop _ rfl) (T.self _ 0 _ _ _ (T.keep _ _ _ st2 λb _ o e=>old b o e) (loop _ rfl))
end
section
variable {X:Cx}{sc:ú}{own:List Str}{capt:List (Str × Nat)}{el tg src:Ñ}{tests:List Ñ}{ps pos:Pos}{wi:TI}{g:TG}{tt:TT}{te:TE}
theorem m51(hc:X.calm=true)(S:p20 X sc own capt)(hi:PI X tg src wi)(hg:∀ cl C s H fp,PG (c60 X (d40 own capt) sc cl C s H fp) tg g)
  (ht:∀ cl C s H fp,PTs (c60 X (d40 own capt) sc cl C s H fp) tests tt) (he:∀ cl C s H fp,PE (c60 X (d40 own capt) sc cl C s H fp) el te)
  (hs:∀ x,Ç9 src X.env x=pure x:=by intro _;rfl):PE X (.ListComp el [⟨tg,src,tests,0⟩] sc ps) (O61 own capt wi g tt te):=by
 intro pins s σ H Q I h;obtain⟨cl,hclos,hcl,hcf⟩:=S90 (scope:=sc) (env:=X.env) λy hy hk=>I.ok.has y.1 (S.frees y hy hk);rw[eval_ListComp];refine Ò2 (use:=none) rfl hs hclos S.kind S.locs (thn (hi pins s σ H _ I h) λv s1 h1=>thn h1 λitv s2 h2=>?_);obtain⟨it,fp,tn,J,H2,e,I2,T,st2,f2,hw⟩:=h2;subst e;refine D60 hc S hcl hcf (hg cl) (ht cl) (λC fp _=>he cl C _ _ fp) I2 T st2 f2 hw (RR:=λacc C=>compPost (Ü X.prog X.w) X.A X.xe none (EP X pins σ Q) acc C) λacc C s' hf=>?_;obtain⟨D,H',m',rfl,I',f',ns',r⟩:=hf;exact⟨m',ns',λh' sb=>⟨.ref D,H',I'.turned (t':=s'.toks) (λb o hb e=>(sb.2 b hb).trans e) f'.1 f'.2.1 f'.2.2.2.1 f'.2.2.2.2.1 f'.2.2.2.2.2,rfl,r⟩⟩
theorem O71{i:Nat}{y:Str}{py:Pos}(hN:X.N.Nodup)(hiN:X.N[i]?=some y)(hy:Loc X.env.scope y)(hsw:Ð2 (.ListComp el [⟨tg,src,tests,0⟩] sc ps) (some (.Name y py)) pos.line X.env=pure true)
  (hc:X.calm=true) (S:p20 X sc own capt) (hi:PI X tg src wi) (hg:∀ cl C s H fp,PG (c60 X (d40 own capt) sc cl C s H fp) tg g)
  (ht:∀ cl C s H fp,PTs (c60 X (d40 own capt) sc cl C s H fp) tests tt) (he:∀ cl C s H fp,PE (c60 X (d40 own capt) sc cl C s H fp) el te)
  (hs:∀ x,Ç9 src X.env x=pure x:=by intro _;rfl) (hf:X.fn y=true∨X.env.scope.names.lookup y=some .local:=by first | exact .inl rfl | exact .inr rfl | assumption) :
  PS X (.Assign [.Name y py] (.ListComp el [⟨tg,src,tests,0⟩] sc ps) pos) (c12 (O61 own capt wi g tt te) (S50 i)):=by
 intro pins s σ H D I h;obtain⟨cl,hclos,hcl,hcf⟩:=S90 (scope:=sc) (env:=X.env) λy hy hk=>I.ok.has y.1 (S.frees y hy hk);rw[exec_Assign_Name_used _ _ _ _ hsw];refine À (Ø9 (À ?_));show Ó _ X.A (do let _ ← comprehension (.ListComp el [⟨tg,src,tests,0⟩] sc ps) sc X.env _ (newList []) false (eval src X.env) (some (Ö5 (.Name y py) X.env))) _ _ s;refine À (Â5 (Ò2 (use:=some (Ö5 (.Name y py) X.env)) (Q:=λ_ s'=>SP X pins D .next s') rfl hs hclos S.kind S.locs
  (thn (hi pins s σ H _ I h) λv s1 h1=>thn h1 λitv s2 h2=>?_)) (λ_ s' hq=>Ë (Ë hq)) λ_ _ e=>e)
 obtain⟨it,fp,tn,J,H2,e,I2,T,st2,f2,hw⟩:=h2;subst e;refine D60 hc S hcl hcf (hg cl) (ht cl) (λC fp _=>he cl C _ _ fp) I2 T st2 f2 hw (RR:=λacc C=>compPost (Ü X.prog X.w) X.A X.xe (some (Ö5 (.Name y py) X.env)) (λ_ s'=>SP X pins D .next s') acc C) λacc C s' hfn=>?_;obtain⟨DA,H',m',rfl,I',f',ns',r⟩:=hfn;show Ó _ X.A (Ö5 (.Name y py) X.env (.ref DA)) _ _ _;refine Ú8 (z00 (v:=.ref DA) I' hN hiN hy rfl (λs3 I3 ha=>?_) hf);obtain⟨a,sb,ha⟩:=ha;have hCa:C≠a:=λz=>by
  rcases ha with q | q
  ·exact f'.2.1 (z.trans q)
  ·exact f'.2.2.2.2.1 _ _ q z.symm
 exact⟨m',ns'.sameBut sb hCa,λh' sb'=>⟨_,H',I3.turned (t':=s3.toks) (λb o hb e=>(sb'.2 b hb).trans e) f'.1 f'.2.1 f'.2.2.2.1 f'.2.2.2.2.1 f'.2.2.2.2.2,r⟩⟩
end
end L2
namespace L2
open PySem
section
variable {P:ß}{w:ò}{A:ù}{E:Ã->Å->Prop}{s:Å}
theorem u80{r t:Æ}{k:Nat}{vs:Array Ã}{x:Ã}{Q:Ã->Å->Prop}(hr:s.heap.IsTupleIter r t k)(ht:s.heap.IsTuple t vs)(hx:vs[k]?=some x)
  (hQ:∀ h',h'.IsTupleIter r t (k + 1)->Ø3 r s.heap h'->Q x { s with heap:=h' }):Ó (Ü P w) A (nextOf (.ref r)) Q E s:=by
 obtain⟨o,ho,hc,hd⟩:=id hr;obtain⟨ot,hot,_,nt,hdt⟩:=ht;unfold nextOf;refine À (Ä1 (name:=Á6 "__next__") hr.typeIs È1 (Æ3 È1 hr.typeIs Ü9 ?_ (Ü7 _)));show Ó _ _ (field (.ref r) 0 >>= _) _ _ s;refine À (Â2 ho hd (x:=.ref t) rfl ?_);show Ó _ _ (if (Á3 t == é)=true then _ else _) _ _ s;rw[if_neg (show ¬ ((Á3 t == é)=true) from Ð)];show Ó _ _ (field (.ref r) 1 >>= _) _ _ s;refine À (Â2 ho hd (x:=.int k 0) rfl ?_);show Ó _ _ (seqItems? (.ref t) >>= _) _ _ s;refine À (Æ2 hot hdt ?_);simp only[Ã1,hx];refine À (wpAny_setField ho hd (by simp) (Ë ⟨x,rfl,Ë (hQ _ ⟨_,Þ2 _ ho (Obj.isFreed_of_fields (Obj.data_mapFields hd _)),(Obj.cls_mapFields ..).trans hc,by rw[Obj.data_mapFields hd];simp[Ç8]⟩ (Ê7 ..))⟩))
theorem r60{r t:Æ}{k:Nat}{vs:Array Ã}{Q:Ã->Å->Prop}(hh:A.handled=none)(hr:s.heap.IsTupleIter r t k)(ht:s.heap.IsTuple t vs)(hx:vs[k]?=none)
  (hE:∀ h' e,ë.ExtBut r s.heap h'->(∃ o,h'.get? e=some o/\o.cls=.type "StopIteration")->E (.ref e) { s with heap:=h' }):Ó (Ü P w) A (nextOf (.ref r)) Q E s:=by
 obtain⟨o,ho,hc,hd⟩:=id hr;obtain⟨ot,hot,_,nt,hdt⟩:=ht;unfold nextOf;refine À (Ä1 (name:=Á6 "__next__") hr.typeIs È1 (Æ3 È1 hr.typeIs Ü9 ?_ (Ü7 _)));show Ó _ _ (field (.ref r) 0 >>= _) _ _ s;refine À (Â2 ho hd (x:=.ref t) rfl ?_);show Ó _ _ (if (Á3 t == é)=true then _ else _) _ _ s;rw[if_neg (show ¬ ((Á3 t == é)=true) from Ð)];show Ó _ _ (field (.ref r) 1 >>= _) _ _ s;refine À (Â2 ho hd (x:=.int k 0) rfl ?_);show Ó _ _ (seqItems? (.ref t) >>= _) _ _ s;refine À (Æ2 hot hdt ?_);simp only[Ã1,hx];refine À (Ð3 (À (wpAny_setField ho hd (by simp) ?_)));show Ó _ _ (newExc (.type "StopIteration") [] >>= _) _ _ _
 refine À ?_;simp only[newExc,newTuple];refine À (À0 ?_ (by size_fits));refine À (m:=firstArgMember _ _) (wpAny_of_eq (a:=é) (by first | rfl | (simp only[firstArgMember];rfl)) ?_)
 refine À0 ?_ (by size_fits);simp only[raiseNew];refine À (wpAny_handled ?_)
 first | rw[show A.in1.handled=none from hh] | rw[hh]
 refine À (Ë (wpAny_throw (hE _ _ (((Ê7 ..).extBut.push _).push _) ⟨_,Ï _ rfl,rfl⟩)))
theorem m61{z TI TO i1 i2 l1 l2:Æ}{k:Nat}{xs ys:Array Ã}{x y a b:Ã}{Q:Option Ã->Å->Prop}(D:ZipApart z TI TO i1 i2 l1 l2)(hz:Ð9 s.heap z TI TO .none)
  (hTI:Å4 s.heap TI (.ref i1) (.ref i2)) (hTO:Å4 s.heap TO a b) (h1:s.heap.IsTupleIter i1 l1 k) (h2:s.heap.IsTupleIter i2 l2 k) (hl1:s.heap.IsTuple l1 xs) (hl2:s.heap.IsTuple l2 ys)
  (hx:xs[k]?=some x) (hy:ys[k]?=some y)
  (hQ:∀ h',Ð9 h' z TI TO (Ç8 s.heap.objs.size)->Å4 h' TO x y->h'.IsTupleIter i1 l1 (k + 1)->h'.IsTupleIter i2 l2 (k + 1)->Å4 h' s.heap.objs.size x y->h'.objs.size=s.heap.objs.size + 1 ->
   (∀ c o,c≠z->c≠TO->c≠i1->c≠i2->s.heap.get? c=some o->h'.get? c=some o)->Q (some (.ref s.heap.objs.size)) { s with heap:=h' }):Ó (Ü P w) A (pyNext (.ref z)) Q E s:=by
 have hT:s.TypeIs (.ref z) "zip":=⟨_,hz,rfl⟩;unfold pyNext;refine À (Ò3 (Ä1 (name:=Á6 "__next__") hT Ó7 (Æ3 Ó7 hT F.entry_zip_next ?_ (F.args_zip_next_1 _))));show Ó _ _ (field (.ref z) 2 >>= _) _ _ _;refine À (Â2 hz rfl (x:=.bool false) rfl ?_);show Ó _ _ (field (.ref z) 3 >>= _) _ _ _;refine À (Â2 hz rfl (x:=.ref TI) rfl ?_);refine À (Æ2 hTI rfl ?_);show Ó _ _ (Ì0 (.ref z) >>= _) _ _ _;refine À ?_;unfold Ì0;refine À (Â2 hz rfl (x:=.none) rfl (Ë ?_));simp only[if_true];refine À (Ð3 (À (Â2 hz rfl (x:=.ref TO) rfl (À (Ç1 hz (by simp) λg1 z1 e1=>?_)))))
 replace z1:Ð9 g1 z TI TO .ellipsis:=z1
 refine À ?_;simp only[List.zipIdx_cons,List.zipIdx_nil,Ì1,Õ3];refine À (À (Ù0 ?_));show Ó _ _ (nextOf (.ref i1) >>= _) _ _ _;refine À (u80 (h1.extBut e1.extBut D.i1z) (hl1.extBut e1.extBut D.l1z) hx λg2 r2 e2=>Ë ?_);have t2:Å4 g2 TO a b:=e2.extBut _ _ D.TOi1 (e1.extBut _ _ D.TOz hTO);refine À (Æ2 t2 rfl (À (Ö2 t2 λg3 t3 e3=>?_)))
 replace t3:Å4 g3 TO x b:=t3
 refine À (wpAny_letGo (Ë ?_));refine À (À (Ù0 ?_));show Ó _ _ (nextOf (.ref i2) >>= _) _ _ _;refine À (u80 (((h2.extBut e1.extBut D.i2z).extBut e2.extBut D.i12.symm).extBut e3.extBut D.TOi2.symm) (((hl2.extBut e1.extBut D.l2z).extBut e2.extBut D.l2i1).extBut e3.extBut D.l2TO) hy λg4 r4 e4=>Ë ?_);have t4:Å4 g4 TO x b:=e4.extBut _ _ D.TOi2 t3;refine À (Æ2 t4 rfl (À (Ö2 t4 λg5 t5 e5=>?_)))
 replace t5:Å4 g5 TO x y:=t5
 refine À (wpAny_letGo (Ë (Ë ?_)));refine À (Æ2 t5 rfl (À (wpAny_newTuple ?_)));have sz:g5.objs.size=s.heap.objs.size:=by rw[e5.1,e4.1,e3.1,e2.1,e1.1]
 have z5:Ð9 g5 z TI TO .ellipsis:=e5.extBut _ _ D.TOz.symm (e4.extBut _ _ D.i2z.symm (e3.extBut _ _ D.TOz.symm (e2.extBut _ _ D.i1z.symm z1)));have kp:∀ c o,c≠z->c≠TO->c≠i1->c≠i2->s.heap.get? c=some o->g5.get? c=some o:=λc o c1 c2 c3 c4 e=>e5.extBut _ _ c2 (e4.extBut _ _ c4 (e3.extBut _ _ c2 (e2.extBut _ _ c3 (e1.extBut _ _ c1 e))));have r1:g5.IsTupleIter i1 l1 (k + 1):=((r2.extBut e3.extBut D.TOi1.symm).extBut e4.extBut D.i12).extBut e5.extBut D.TOi1.symm;have r5:g5.IsTupleIter i2 l2 (k + 1):=r4.extBut e5.extBut D.TOi2.symm;have zl:z < g5.objs.size:=á z5;show Ó _ _ (ownedTupleHandOut (.ref z) (.ref g5.objs.size) >>= _) _ _ _;refine À ?_;unfold ownedTupleHandOut;have z6:Ð9 (g5.push { cls:=.type "tuple",data:=.seq #[x,y] }) z TI TO .ellipsis:=Ä _ z5;refine À (Ç1 z6 (by simp) λg7 z7 e7=>?_)
 replace z7:Ð9 g7 z TI TO (Ç8 g5.objs.size):=z7
 refine Ç1 z7 (by simp) λg8 z8 e8=>?_
 replace z8:Ð9 g8 z TI TO (Ç8 g5.objs.size):=z8
 have up:∀ c o,c≠z->g5.get? c=some o->g8.get? c=some o:=λc o c1 e=>e8.extBut _ _ c1 (e7.extBut _ _ c1 (Ä _ e));have t8:Å4 g8 g5.objs.size x y:=e8.extBut _ _ (Ï1 zl) (e7.extBut _ _ (Ï1 zl) (Ï _ rfl));have s8:g8.objs.size=g5.objs.size + 1:=by rw[e8.1,e7.1,É8]
 rw[sz] at z8 t8 s8;refine Ë ⟨_,rfl,?_⟩;refine Ë ?_;show Q (some (.ref g5.objs.size)) _;rw[sz];exact hQ g8 z8 (up _ _ D.TOz t5) (by obtain⟨o,ho,q⟩:=r1;exact⟨o,up _ o D.i1z ho,q⟩) (by obtain⟨o,ho,q⟩:=r5;exact⟨o,up _ o D.i2z ho,q⟩) t8 s8 λc o c1 c2 c3 c4 e=>up c o c1 (kp c o c1 c2 c3 c4 e)
theorem B01{z TI TO i1 i2 l1 l2:Æ}{k:Nat}{xs ys:Array Ã}{a b:Ã}{Q:Option Ã->Å->Prop}(hh:A.handled=none)(D:ZipApart z TI TO i1 i2 l1 l2)(hz:Ð9 s.heap z TI TO .none)
  (hTI:Å4 s.heap TI (.ref i1) (.ref i2)) (hTO:Å4 s.heap TO a b) (h1:s.heap.IsTupleIter i1 l1 k) (h2:s.heap.IsTupleIter i2 l2 k) (hl1:s.heap.IsTuple l1 xs) (hl2:s.heap.IsTuple l2 ys)
  (hend:xs[k]?=none∨ys[k]?=none) (hQ:∀ h',(∀ c o,c≠z->c≠TO->c≠i1->c≠i2->s.heap.get? c=some o->h'.get? c=some o)->Q none { s with heap:=h' }):Ó (Ü P w) A (pyNext (.ref z)) Q E s:=by
 have hT:s.TypeIs (.ref z) "zip":=⟨_,hz,rfl⟩;have fin:∀ (h':ë) (e:Æ),(∀ c o,c≠z->c≠TO->c≠i1->c≠i2->s.heap.get? c=some o->h'.get? c=some o)->(∃ o,h'.get? e=some o/\o.cls=.type "StopIteration") ->
   Ó (Ü P w) A (isInstance (.ref e) (.type "StopIteration") >>= λb=>if b=true then pure none else throw (.ref e)) Q E { s with heap:=h' }:=λh' e kp he=>by
  obtain⟨o,ho,hc⟩:=he;exact À (wpAny_isInstance (T:="StopIteration") (b:=true) ⟨o,ho,hc⟩ isSubtype_stop (Ë (hQ _ kp)))
 unfold pyNext;refine À (Ò3 (Ä1 (name:=Á6 "__next__") hT Ó7 (Æ3 Ó7 hT F.entry_zip_next ?_ (F.args_zip_next_1 _))));show Ó _ _ (field (.ref z) 2 >>= _) _ _ _;refine À (Â2 hz rfl (x:=.bool false) rfl ?_);show Ó _ _ (field (.ref z) 3 >>= _) _ _ _;refine À (Â2 hz rfl (x:=.ref TI) rfl ?_);refine À (Æ2 hTI rfl ?_);show Ó _ _ (Ì0 (.ref z) >>= _) _ _ _;refine À ?_;unfold Ì0;refine À (Â2 hz rfl (x:=.none) rfl (Ë ?_));simp only[if_true];refine À (Ð3 (À (Â2 hz rfl (x:=.ref TO) rfl (À (Ç1 hz (by simp) λg1 z1 e1=>?_)))))
 replace z1:Ð9 g1 z TI TO .ellipsis:=z1
 refine À ?_;simp only[List.zipIdx_cons,List.zipIdx_nil,Ì1,Õ3];refine À (À (Ù0 ?_));show Ó _ _ (nextOf (.ref i1) >>= _) _ _ _;cases hx:xs[k]? with
 |none =>
  refine À (r60 hh (h1.extBut e1.extBut D.i1z) (hl1.extBut e1.extBut D.l1z) hx λg2 e e2 he=>?_);obtain⟨oe,hoe,hce⟩:=he;have z2:Ð9 g2 z TI TO .ellipsis:=e2 _ _ D.i1z.symm z1;have hez:e≠z:=λq=>by subst q;rw[z2] at hoe;cases hoe;simp at hce
  exact Ç1 z2 (by simp) λg3 _ e3=>fin g3 e (λc o c1 _ c3 _ q=>e3.extBut _ _ c1 (e2 _ _ c3 (e1.extBut _ _ c1 q))) ⟨oe,e3.extBut _ _ hez hoe,hce⟩
 |some x =>
  have hy:ys[k]?=none:=by rcases hend with q | q;rw[hx] at q;cases q;exact q
  refine À (u80 (h1.extBut e1.extBut D.i1z) (hl1.extBut e1.extBut D.l1z) hx λg2 r2 e2=>Ë ?_);have t2:Å4 g2 TO a b:=e2.extBut _ _ D.TOi1 (e1.extBut _ _ D.TOz hTO);refine À (Æ2 t2 rfl (À (Ö2 t2 λg3 t3 e3=>?_)));refine À (wpAny_letGo (Ë ?_));refine À (À (Ù0 ?_));show Ó _ _ (nextOf (.ref i2) >>= _) _ _ _;refine À (r60 hh (((h2.extBut e1.extBut D.i2z).extBut e2.extBut D.i12.symm).extBut e3.extBut D.TOi2.symm) (((hl2.extBut e1.extBut D.l2z).extBut e2.extBut D.l2i1).extBut e3.extBut D.l2TO) hy λg4 e e4 he=>?_);obtain⟨oe,hoe,hce⟩:=he;have z4:Ð9 g4 z TI TO .ellipsis:=e4 _ _ D.i2z.symm (e3.extBut _ _ D.TOz.symm (e2.extBut _ _ D.i1z.symm z1));have hez:e≠z:=λq=>by subst q;rw[z4] at hoe;cases hoe;simp at hce
  exact Ç1 z4 (by simp) λg5 _ e5=>fin g5 e (λc o c1 c2 c3 c4 q=>e5.extBut _ _ c1 (e4 _ _ c4 (e3.extBut _ _ c2 (e2.extBut _ _ c3 (e1.extBut _ _ c1 q))))) ⟨oe,e5.extBut _ _ hez hoe,hce⟩
abbrev zT1(h:ë)(l1:Æ):Heap:=h.push { cls:=.type "tuple_iterator",data:=.fields #[.ref l1,.int 0 0] }
abbrev zT2(h:ë)(l1 l2:Æ):Heap:=(zT1 h l1).push { cls:=.type "tuple_iterator",data:=.fields #[.ref l2,.int 0 0] }
abbrev zT3(h:ë)(l1 l2:Æ):Heap:=(zT2 h l1 l2).push { cls:=.type "tuple",data:=.seq #[.ref h.objs.size,.ref (zT1 h l1).objs.size] }
abbrev zT4(h:ë)(l1 l2:Æ):Heap:=(zT3 h l1 l2).push { cls:=.type "tuple",data:=.seq #[.none,.none] }
abbrev zT5(h:ë)(l1 l2:Æ):Heap:=(zT4 h l1 l2).push { cls:=.type "zip",data:=.fields #[.none,.bool false,.bool false,.ref (zT2 h l1 l2).objs.size,.ref (zT3 h l1 l2).objs.size] }
theorem f81(l1 l2:Æ)(xs ys:Array Ã) :
  Meets (Ä2.«zip.__new__» ⟨[.type "zip",.ref l1,.ref l2],[]⟩) (λ_ R s=>s.heap.IsTuple l1 xs/\s.heap.IsTuple l2 ys/\R (.ok (.ret (.ref (zT4 s.heap l1 l2).objs.size))) { s with heap:=zT5 s.heap l1 l2 }) :=
 .of_wp λP w A R s h=>by
  obtain⟨hp,g,d,tk,os⟩:=s;obtain⟨hl1,hl2,h⟩:=h;have hsub:=sub_zip;have hL1:Ø4 (Å.heap ⟨hp,g,d,tk,os⟩) l1 xs:=hl1;have hL2:Ø4 (Å.heap ⟨hp.push { cls:=.type "tuple_iterator",data:=.fields #[.ref l1,.int 0 0] },g,d,tk,os⟩) l2 ys:=Ø4.push hl2 _
  wp_walk using Ð4 hL1,Ð4 hL2
  exact⟨_,rfl,h⟩
theorem m71{l1 l2:Æ}{xs ys:Array Ã}{Q:Ã->Å->Prop}(hl1:s.heap.IsTuple l1 xs)(hl2:s.heap.IsTuple l2 ys)
  (h:∀ h',Ð9 h' (s.heap.objs.size + 4) (s.heap.objs.size + 2) (s.heap.objs.size + 3) .none->Å4 h' (s.heap.objs.size + 2) (.ref s.heap.objs.size) (.ref (s.heap.objs.size + 1))->Å4 h' (s.heap.objs.size + 3) .none .none ->
   h'.IsTupleIter s.heap.objs.size l1 0->h'.IsTupleIter (s.heap.objs.size + 1) l2 0->(∀ c o,s.heap.get? c=some o->h'.get? c=some o)->Q (.ref (s.heap.objs.size + 4)) { s with heap:=h' }) :
  Ó (Ü P w) A (call (.type "zip") [.ref l1,.ref l2]) Q E s:=by
 refine callType_new F.called_zip (-0) (F.typeCall_zip_2 _ _) (F.newCall_zip_2 _ _) (λobj=>F.args_object_init_3 obj _ _) F.entry_zip_new (f81 l1 l2 xs ys) ⟨hl1,hl2,?_⟩
 have n1:(zT1 s.heap l1).objs.size=s.heap.objs.size + 1:=É8 ..;have n2:(zT2 s.heap l1 l2).objs.size=s.heap.objs.size + 2:=by rw[É8,n1]
 have n3:(zT3 s.heap l1 l2).objs.size=s.heap.objs.size + 3:=by rw[É8,n2]
 have n4:(zT4 s.heap l1 l2).objs.size=s.heap.objs.size + 4:=by rw[É8,n3]
 have g5:(zT5 s.heap l1 l2).get? (zT4 s.heap l1 l2).objs.size=some _:=Ï _ rfl;have g4:(zT5 s.heap l1 l2).get? (zT3 s.heap l1 l2).objs.size=some _:=Ä _ (Ï _ rfl);have g3:(zT5 s.heap l1 l2).get? (zT2 s.heap l1 l2).objs.size=some _:=Ä _ (Ä _ (Ï _ rfl));have g2:(zT5 s.heap l1 l2).get? (zT1 s.heap l1).objs.size=some _:=Ä _ (Ä _ (Ä _ (Ï _ rfl)));have g1:(zT5 s.heap l1 l2).get? s.heap.objs.size=some _:=Ä _ (Ä _ (Ä _ (Ä _ (Ï _ rfl))));show _/\_;rw[n2,n3,n4] at g5;rw[n1,n2] at g3;rw[n3] at g4;rw[n1] at g2;rw[n4];exact⟨⟨_,g5,rfl⟩,h _ g5 g3 g4 ⟨_,g1,rfl,rfl⟩ ⟨_,g2,rfl,rfl⟩ λc o q=>Ä _ (Ä _ (Ä _ (Ä _ (Ä _ q))))⟩
end
open PySem PySem.Spec PyProof.Rows
section
variable {X:Cx}{pins:List (Æ × Obj)}{σ:St}{H:Hp}{s:Å}{h':ë}
theorem Inv.m81{t':Nat}{ch:List Æ}(I:Inv X pins σ H s)(hf:∀ b∈ch,f21 X pins H b)(k:∀ b o,b ∉ ch->s.heap.get? b=some o->h'.get? b=some o):Inv X pins σ H { s with heap:=h',toks:=t' }:=by
 have nch:∀ b u,H b=some u->b ∉ ch:=λb u e z=>by rw[(hf b z).1] at e;cases e
 refine I.step (g':=s.gens) (d':=s.drawn) (ch:=ch) (λb hb=>⟨(hf b hb).2.2.2.1,(hf b hb).2.1,(hf b hb).2.2.2.2.1,(hf b hb).2.2.2.2.2⟩) (λb o _ _ hc e _=>k b o hc e) (λb o _ _ hc e _=>⟨o.slots,k b o hc e⟩) (λ_ _ _ _ n=>n)
  (λb o hc e=>⟨o,k b o hc e⟩) (λ_ _ e=>e) (λ_ _ _ e=>e) (λb ps e=>⟨#[],by rw[e];simp⟩) (λm hm=>?_) (λb u e=>?_) I.bare
 ·obtain⟨o,es,ep,ho,r⟩:=hm;exact⟨o,es,ep,k _ o (λz=>(hf _ z).2.1 rfl) ho,r⟩
 ·refine(I.hok b u e).f01 (λc v hc q=>k c v ?_ q) (λ_ q=>q) λ_ _ q=>q;rcases hc with z | z
  ·rw[z];exact nch b u e
  ·exact nch c _ z
theorem Inv.O31{T:Æ}{o:HO}(I:Inv X pins σ H s)(f:f21 X pins H T)(h0:X.s₀.heap.objs.size<=T)(hok:HOk X.prog X.w (upd H T o) s.heap):Inv X pins σ (upd H T o) s:=by
 have u:=I.base;refine⟨I.ok,I.os,I.bare,⟨u.keep,u.slot,λb ob e n hx=>?_,u.there,λb xs e=>?_,λb ob xs e=>?_,λb ps e=>?_⟩,I.loc,I.cell,?_,λx c e=>?_,λp hp=>?_,hok,I.len⟩
 ·rw[a40 (ä (Ø (á e) h0))];exact u.free b ob e n hx
 ·have z:=u.tups b xs e;rw[a40 (a70 z f.1)];exact z
 ·have z:=u.frzs b ob xs e;rw[a40 (a70 z f.1)];exact z
 ·obtain⟨more,z⟩:=u.tbls b ps e;exact⟨more,by rw[a40 (a70 z f.1)];exact z⟩
 ·rw[a40 f.2.1.symm];exact I.free
 ·rw[a40 (f.2.2.2.2.1 x c e)];exact I.freeC x c e
 ·obtain⟨e,n,r⟩:=I.pin p hp;exact⟨e,by rw[a40 (f.2.2.2.2.2 p hp)];exact n,r⟩
theorem HOk.d72{P:ß}{w:ò}{H:Hp}{h:ë}{D:Æ}{ys:List V}{its:List Ã}(x:HOk P w H h)(hn:H D=none)(hv:Vals ys its)(hz:ys.length<=sizeLine)(ho:Ï4 h D its.toArray):HOk P w (upd H D (.tup ys)) h:=λb u e=>by
 by_cases hb:b=D
 ·subst hb;rw[b20] at e;cases e;exact⟨hz,its,hv,ho⟩
 ·rw[a40 hb] at e;exact(x b u e).f01 (λc v _ q=>q) (λc q=>by rw[a40 (a70 q hn)];exact q) λc xs q=>by rw[a40 (a70 q hn)];exact q
end
def SqB:Bool->Á->Hp->Æ->List V->Prop
 |true=>SqL|false=>SqT
def f91:Bool->ë->Æ->Æ->Nat->Prop
 |true=>ë.IsListIter|false=>ë.IsTupleIter
def O81:Bool->ë->Æ->Array Ã->Prop
 |true=>ë.IsList|false=>Ø4
theorem f91.obj{b:Bool}{h:ë}{it a:Æ}{i:Nat}(st:f91 b h it a i):∃ o,h.get? it=some o/\(∀ v,o.data=.cell v->False)/\∀ h':ë,h'.get? it=some o->f91 b h' it a i:=by
 cases b with
 |true=>obtain⟨o,g,c,d⟩:=st;exact⟨o,g,(λv e=>by rw[d] at e;cases e),λh' k=>⟨o,k,c,d⟩⟩
 |false=>obtain⟨o,g,c,d⟩:=st;exact⟨o,g,(λv e=>by rw[d] at e;cases e),λh' k=>⟨o,k,c,d⟩⟩
theorem Inv.Z41(I:Inv X pins σ H s)(h:SqB b X.K H a xs):∃ its:List Ã,Vals xs its/\O81 b s.heap a its.toArray/\a < s.heap.objs.size/\∀ ys,SqB b X.K H a ys->ys=xs:=by
 cases b with
 |true=>obtain⟨its,r,p,_⟩:=I.list h;exact⟨its,r,p.isList,by obtain⟨o,e,_⟩:=p.isList;exact á e,λys h'=>I.Y40 h' h⟩
 |false=>obtain⟨its,r,p,_⟩:=I.tuple h;exact⟨its,r,p,by obtain⟨o,e,_⟩:=p;exact á e,λys h'=>I.L60 h' h⟩
section
variable {P:ß}{w:ò}{A:ù}{E:Ã->Å->Prop}{s:Å}{b:Bool}{z TI TO i1 i2 l1 l2:Æ}{k:Nat}{xs ys:Array Ã}{x y p q:Ã}
theorem m91{Q:Option Ã->Å->Prop}(D:ZipApart z TI TO i1 i2 l1 l2)(hz:Ð9 s.heap z TI TO .none)(hTI:Å4 s.heap TI (.ref i1) (.ref i2))(hTO:Å4 s.heap TO p q)(h1:f91 b s.heap i1 l1 k)(h2:f91 b s.heap i2 l2 k)(hl1:O81 b s.heap l1 xs)(hl2:O81 b s.heap l2 ys)(hx:xs[k]?=some x)(hy:ys[k]?=some y)
  (hQ:∀ h',Ð9 h' z TI TO (Ç8 s.heap.objs.size)->Å4 h' TO x y->f91 b h' i1 l1 (k + 1)->f91 b h' i2 l2 (k + 1)->Å4 h' s.heap.objs.size x y->h'.objs.size=s.heap.objs.size + 1 ->
   (∀ c o,c≠z->c≠TO->c≠i1->c≠i2->s.heap.get? c=some o->h'.get? c=some o)->Q (some (.ref s.heap.objs.size)) { s with heap:=h' }):Ó (Ü P w) A (pyNext (.ref z)) Q E s:=match b,h1,h2,hl1,hl2,hQ with
 |true,h1,h2,hl1,hl2,hQ=>wpAny_pyNext_zip_item D hz hTI hTO h1 h2 hl1 hl2 hx hy hQ|false,h1,h2,hl1,hl2,hQ=>m61 D hz hTI hTO h1 h2 hl1 hl2 hx hy hQ
theorem B11{Q:Option Ã->Å->Prop}(hh:A.handled=none)(D:ZipApart z TI TO i1 i2 l1 l2)(hz:Ð9 s.heap z TI TO .none)(hTI:Å4 s.heap TI (.ref i1) (.ref i2))(hTO:Å4 s.heap TO p q)(h1:f91 b s.heap i1 l1 k)(h2:f91 b s.heap i2 l2 k)(hl1:O81 b s.heap l1 xs)(hl2:O81 b s.heap l2 ys)
  (hend:xs[k]?=none∨ys[k]?=none) (hQ:∀ h',(∀ c o,c≠z->c≠TO->c≠i1->c≠i2->s.heap.get? c=some o->h'.get? c=some o)->Q none { s with heap:=h' }):Ó (Ü P w) A (pyNext (.ref z)) Q E s:=match b,h1,h2,hl1,hl2 with
 |true,h1,h2,hl1,hl2=>wpAny_pyNext_zip_end hh D hz hTI hTO h1 h2 hl1 hl2 hend hQ|false,h1,h2,hl1,hl2=>B01 hh D hz hTI hTO h1 h2 hl1 hl2 hend hQ
theorem n11{Q:Ã->Å->Prop}(hl1:O81 b s.heap l1 xs)(hl2:O81 b s.heap l2 ys)
  (h:∀ h',Ð9 h' (s.heap.objs.size + 4) (s.heap.objs.size + 2) (s.heap.objs.size + 3) .none->Å4 h' (s.heap.objs.size + 2) (.ref s.heap.objs.size) (.ref (s.heap.objs.size + 1))->Å4 h' (s.heap.objs.size + 3) .none .none ->
   f91 b h' s.heap.objs.size l1 0->f91 b h' (s.heap.objs.size + 1) l2 0->(∀ c o,s.heap.get? c=some o->h'.get? c=some o)->Q (.ref (s.heap.objs.size + 4)) { s with heap:=h' }):Ó (Ü P w) A (call (.type "zip") [.ref l1,.ref l2]) Q E s:=match b,hl1,hl2,h with
 |true,hl1,hl2,h=>call_zip_2 hl1 hl2 λh' a1 a2 a3 a4 a5 _ a6=>h h' a1 a2 a3 a4 a5 a6|false,hl1,hl2,h=>m71 hl1 hl2 h
end
def Itz(b:Bool)(K:Á)(a c:Æ):It :=
 ⟨λi H=>∃ xs ys x y,SqB b K H a xs/\SqB b K H c ys/\xs[i]?=some x/\ys[i]?=some y,
  λi H v H'=>∃ T,v=.ref T/\H T=none/\∀ xs ys x y,SqB b K H a xs->SqB b K H c ys->xs[i]?=some x->ys[i]?=some y->H'=upd H T (.tup [x,y]),
  λi H=>∃ xs ys,SqB b K H a xs/\SqB b K H c ys/\(xs.length<=i∨ys.length<=i)⟩
theorem B21{P:ß}{w:ò}{K:Á}{es:List Ñ}{ek:Nat}{ep:Pos}{b:Bool}{a c z TI TO i1 i2:Æ}(D:ZipApart z TI TO i1 i2 a c) :
  Turn P w K (.Tuple es ek ep) (Itz b K a c) [z,TI,TO,i1,i2] z (λi h=>Ð9 h z TI TO .none/\Å4 h TI (.ref i1) (.ref i2)/\(∃ p q,Å4 h TO p q)/\f91 b h i1 a i/\f91 b h i2 c i) where
 mem:=by simp
 obj:=λi h st c hc=>by
  obtain⟨hz,hTI,⟨p,q,hTO⟩,h1,h2⟩:=st;obtain⟨o1,h1,d1,_⟩:=h1.obj;obtain⟨o2,h2,d2,_⟩:=h2.obj;simp only[È8,Æ4,or_false] at hc;rcases hc with rfl | rfl | rfl | rfl | rfl
  ·exact⟨_,hz,λv e=>by cases e⟩
  ·exact⟨_,hTI,λv e=>by cases e⟩
  ·exact⟨_,hTO,λv e=>by cases e⟩
  ·exact⟨_,h1,d1⟩
  ·exact⟨_,h2,d2⟩
 keep:=λi h h' st k=>by
  obtain⟨hz,hTI,⟨p,q,hTO⟩,h1,h2⟩:=st;obtain⟨o1,h1,_,r1⟩:=h1.obj;obtain⟨o2,h2,_,r2⟩:=h2.obj;exact⟨k z (by simp) _ hz,k TI (by simp) _ hTI,⟨p,q,k TO (by simp) _ hTO⟩,r1 _ (k i1 (by simp) _ h1),r2 _ (k i2 (by simp) _ h2)⟩
 item:=by
  intro X hP hw hK hc i pins s σ H E I hf st hg;subst hP hw hK;obtain⟨xs,ys,x,y,hq1,hq2,hx,hy⟩:=hg;obtain⟨v1,rv1,p1,_,z1⟩:=I.Z41 hq1;obtain⟨v2,rv2,p2,_,z2⟩:=I.Z41 hq2;obtain⟨u1,hu1,ru1⟩:=rv1.get hx;obtain⟨u2,hu2,ru2⟩:=rv2.get hy;obtain⟨hz,hTI,⟨p,q,hTO⟩,h1,h2⟩:=st;refine m91 D hz hTI hTO h1 h2 p1 p2 (x:=u1) (y:=u2) (by simpa using hu1) (by simpa using hu2) λg1 gz gTO g1' g2' gT gs kp=>⟨_,rfl,?_⟩
  refine wpAny_letOwnedTupleGo_zip (s:={ s with heap:=g1 }) gz λg2 gz2 sb=>?_;have hT:H s.heap.objs.size=none:=I.hok.fresh (Ì _);have kall:∀ c o,c ∉ [z,TI,TO,i1,i2]->s.heap.get? c=some o->g2.get? c=some o:=λc o hc e=>by
   simp only[È8,Æ4,or_false,not_or] at hc;exact sb.extBut _ _ hc.1 (kp c o hc.1 hc.2.2.1 hc.2.2.2.1 hc.2.2.2.2 e)
  have I2:Inv X pins σ H { s with heap:=g2 }:=I.m81 (t':=s.toks) hf kall;have fT:f21 X pins H s.heap.objs.size:=I.y71 (Ì _) hT;have gT2:g2.get? s.heap.objs.size=some { cls:=.type "tuple",data:=.seq #[u1,u2] }:=sb.extBut _ _ (λe=>Â4 _ (by have:=á hz;rw[← e] at this;exact this)) gT
  have I3:Inv X pins σ (upd H s.heap.objs.size (.tup [x,y])) { s with heap:=g2 }:=I2.O31 fT I.sz (I2.hok.d72 hT (its:=[u1,u2]) (.cons ru1 (.cons ru2 .nil)) (by show 2<=sizeLine;rw[Â8];decide) ⟨_,gT2,rfl,_,rfl⟩)
  have TI0:Å4 g2 TI (.ref i1) (.ref i2):=sb.extBut _ _ D.TIz (kp _ _ D.TIz D.TITO D.TIi1 D.TIi2 hTI);obtain⟨o1,w1,_,r1⟩:=g1'.obj;obtain⟨o2,w2,_,r2⟩:=g2'.obj;refine⟨.ref s.heap.objs.size,_,I3,rfl,⟨_,rfl,hT,λxs' ys' x' y' e1 e2 e3 e4=>?_⟩,⟨gz2,TI0,⟨_,_,sb.extBut _ _ D.TOz gTO⟩,r1 _ (sb.extBut _ _ D.i1z w1),r2 _ (sb.extBut _ _ D.i2z w2)⟩,λc hc=>?_⟩
  ·rw[z1 _ e1] at e3;rw[z2 _ e2] at e4;rw[hx] at e3;rw[hy] at e4;cases e3;cases e4;rfl
  ·rw[a40]
   ·exact(hf c hc).1
   ·intro e;obtain⟨o1,h1,_⟩:=h1.obj;obtain⟨o2,h2,_⟩:=h2.obj;have lt:c < s.heap.objs.size:=by
     simp only[È8,Æ4,or_false] at hc;rcases hc with rfl | rfl | rfl | rfl | rfl
     ·exact á hz
     ·exact á hTI
     ·exact á hTO
     ·exact á h1
     ·exact á h2
    rw[e] at lt;exact Â4 _ lt
 done:=by
  intro X hP hw hK hc i pins s σ H E I hf st hg;subst hP hw hK;obtain⟨xs,ys,hq1,hq2,hend⟩:=hg;obtain⟨v1,rv1,p1,_⟩:=I.Z41 hq1;obtain⟨v2,rv2,p2,_⟩:=I.Z41 hq2;obtain⟨hz,hTI,⟨p,q,hTO⟩,h1,h2⟩:=st;have l1:=rv1.length;have l2:=rv2.length;refine B11 (I.ok.hd hc) D hz hTI hTO h1 h2 p1 p2 (hend.elim (λe=>.inl (by simp;omega)) λe=>.inr (by simp;omega)) λg kp=>⟨rfl,I.m81 (t':=s.toks) hf λc o hcn e=>?_⟩
  simp only[È8,Æ4,or_false,not_or] at hcn;exact kp c o hcn.1 hcn.2.2.1 hcn.2.2.2.1 hcn.2.2.2.2 e
 self:=λ_ _ _ _ _ st h=>wpAny_pyIter_zip st.1 h
def H82(K:Á)(ta:TA):TI:=λσ H R=>ta σ H λvs H1=>∃ b a c,vs=[.ref a,.ref c]/\(∃ xs,SqB b K H1 a xs)/\(∃ ys,SqB b K H1 c ys)/\R (Itz b K a c) H1
theorem boot_zip:ð "zip"=some (.type "zip"):=by decide +kernel
theorem d82{X:Cx}{a b:Ñ}{es:List Ñ}{ek:Nat}{ep:Pos}{ta:TA}{p pos:Pos}(hg:Gl X "zip")(hm:X.mg "zip"=none)(ha:PA X [a,b] ta)(hs:û [a,b] X.env=[(false,eval a X.env),(false,eval b X.env)]:=by rfl)(hs2:û [b] X.env=[(false,eval b X.env)]:=by rfl) :
  PI X (.Tuple es ek ep) (.Call (.Name "zip" p) [a,b] [] pos) (H82 X.K ta):=by
 intro pins s σ H R I h;refine Call_ (w10 I hg hm boot_zip (Á4 (thn (ha pos pins s σ H _ I h) λus s1 ⟨vs,H1,I1,r1,q1⟩=>?_) (by rw[hs,hs2]) (by rw[hs2];rfl)))
 obtain⟨b,l1,l2,e,⟨xs,hq1⟩,⟨ys,hq2⟩,q⟩:=q1;subst e;obtain⟨u,w',rfl,r,r'⟩:=vals2 r1;cases r;cases r';obtain⟨v1,rv1,p1,a1,_⟩:=I1.Z41 hq1;obtain⟨v2,rv2,p2,a2,_⟩:=I1.Z41 hq2;refine n11 p1 p2 λh' hz hTI hTO h1 h2 kp=>wpAny_pyIter_zip (s:={ s1 with heap:=h' }) hz ?_;refine⟨_,[s1.heap.objs.size + 4,s1.heap.objs.size + 2,s1.heap.objs.size + 3,s1.heap.objs.size,s1.heap.objs.size + 1],_,_,H1,rfl,I1.kept (t':=s1.toks) kp,B21 (PyProof.Rows.zipApart_new a1 a2),⟨hz,hTI,⟨_,_,hTO⟩,h1,h2⟩,λc hc=>?_,q⟩;have hc':s1.heap.objs.size<=c:=by
  simp only[È8,Æ4,or_false] at hc;rcases hc with rfl | rfl | rfl | rfl | rfl
  ·exact Ê8 _ 4
  ·exact Ê8 _ 2
  ·exact Ê8 _ 3
  ·exact Ì _
  ·exact Ê8 _ 1
 exact I1.y71 hc' (I1.hok.fresh hc')
theorem B31(hc:X.calm=true):e60 X (.builtin "all") (λxs H Q=>∃ (a:Æ) (bs:List Bool),xs=[.ref a]/\SqL X.K H a (bs.map V.bl)/\Q (.bl (bs.all id)) H):=by
 intro pins s σ H xs us Q I r h;obtain⟨a,bs,rfl,hq,q⟩:=h;obtain⟨u,rfl,rx⟩:=vals1 r;cases rx;obtain⟨its,rv,pl,hz⟩:=I.list hq;have hlt:a < s.heap.objs.size:=by obtain⟨_,e,_⟩:=pl.isList;exact á e
 have hlen:its.length=bs.length:=by have:=rv.length;simpa using this.symm
 refine call_all_walk (Ñ8 pl.isList ⟨_,_,_,_,_,_,λi=>(bs[i]?).getD true,rfl,Walks.list (by exact I.ok.hd hc) s.heap.objs.size a (ä hlt) its.toArray,⟨⟨_,Ï _ rfl,rfl,rfl⟩,pl.isList.push _⟩,?_,?_⟩)
 ·intro i v s' Q' E' hP hQ;have hP':its[i]?=some v:=by simpa using hP
  have hi:i < bs.length:=by rw[← hlen];exact(Û.mp hP').1
  obtain⟨v',hv',rv'⟩:=rv.get (i:=i) (x:=.bl bs[i]) (by simp[hi])
  rw[hP'] at hv';cases hv';cases (show v=Ç7 _ from rv');exact À3 (by simpa [hi] using hQ)
 ·intro h' tk kp;refine⟨.bl (bs.all id),H,I.kept λb o e=>kp b o (by simpa using ä (á e)) (Ä _ e),?_,q⟩
  show Ç7 _=Ç7 _;rw[Õ,hlen,PyProof.Rows.LSm.range_all]
end L2
namespace MySort
open PySem PySem.W PyProof.Rows
def run{α:Type}(cmp:Nat->Nat->Bool):KasT α->α
 |.ret a=>a|.ask i j k=>run cmp (k (cmp i j))
theorem run_bind(cmp:Nat->Nat->Bool)(f:α->KasT β):∀ t:KasT α,run cmp (t.bind f)=run cmp (f (run cmp t))
 |.ret _=>rfl|.ask i j k=>run_bind cmp f (k (cmp i j))
section
variable (O:KeyOrd) (key:Nat->O.α)
def kk(p:Array Nat)(i:Nat):O.α:=key (p.getD i 0)
abbrev k00:Nat->Nat->Bool:=λi j=>O.blt (key i) (key j)
def Up(p:Array Nat)(n:Nat):Prop:=∀ i j,i<=j->j < n->O.kle (kk O key p i) (kk O key p j)
def Dn(p:Array Nat)(n:Nat):Prop:=∀ i j,i<=j->j < n->O.kle (kk O key p j) (kk O key p i)
variable {O key}
theorem r70(h:p[i]?=q[j]?):kk O key p i=kk O key q j:=by
 unfold kk;rw[Í1,Í1,h]
theorem n21(hj:j<=p.size)(k:Nat):kk O key (Ç2 p i j) k=if i<=k/\k < j then kk O key p (i + j - 1 - k) else kk O key p k:=by
 have e:=getElem?_mirror_all (i:=i) hj k;unfold Ç2;by_cases h1:i<=k/\k < j
 ·rw[if_pos h1] at e ⊢;exact r70 e
 ·rw[if_neg h1] at e ⊢;exact r70 e
theorem d92(hs:k < p.size)(hd:d<=k)(i:Nat) :
  kk O key (bubble p k d) i=if i=k - d then kk O key p k else if k - d < i/\i<=k then kk O key p (i - 1) else kk O key p i:=by
 have e:=getElem?_bubble hs d hd i;by_cases h1:i=k - d
 ·rw[if_pos h1] at e ⊢;exact r70 e
 ·rw[if_neg h1] at e ⊢;by_cases h2:k - d < i/\i<=k
  ·rw[if_pos h2] at e ⊢;exact r70 e
  ·rw[if_neg h2] at e ⊢;exact r70 e
theorem Up.more(h:Up O key p n)(h1:1<=n)(hl:O.kle (kk O key p (n - 1)) (kk O key p n)):Up O key p (n + 1):=by
 intro i j hij hj;by_cases e:j=n
 ·subst e;by_cases e2:i=j
  ·subst e2;exact Æ1 _
  ·exact Ø2 (h i (j - 1) ∅ ∅) hl
 ·exact h i j hij ∅
theorem Dn.more(h:Dn O key p n)(h1:1<=n)(hl:O.kle (kk O key p n) (kk O key p (n - 1))):Dn O key p (n + 1):=by
 intro i j hij hj;by_cases e:j=n
 ·subst e;by_cases e2:i=j
  ·subst e2;exact Æ1 _
  ·exact Ø2 hl (h i (j - 1) ∅ ∅)
 ·exact h i j hij ∅
theorem n31:∀ (f n:Nat),1<=n->Up O key p n ->
  n<=run (k00 O key) (Ç3 p f n)/\run (k00 O key) (Ç3 p f n)<=n + f/\Up O key p (run (k00 O key) (Ç3 p f n)) /\
   (run (k00 O key) (Ç3 p f n) < n + f->O.klt (kk O key p (run (k00 O key) (Ç3 p f n))) (kk O key p (run (k00 O key) (Ç3 p f n) - 1)))
 |0,n,h1,hu=>⟨Ì _,Ì _,hu,λh=>absurd h (Â4 _)⟩
 |f + 1,n,h1,hu=>by
  show n<=run _ (if O.blt (kk O key p n) (kk O key p (n - 1))=true then Ñ4 n else Ç3 p f (n + 1))/\run _ (if O.blt (kk O key p n) (kk O key p (n - 1))=true then Ñ4 n else Ç3 p f (n + 1))<=n + (f + 1) /\
   Up O key p (run _ (if O.blt (kk O key p n) (kk O key p (n - 1))=true then Ñ4 n else Ç3 p f (n + 1))) /\
   (run _ (if O.blt (kk O key p n) (kk O key p (n - 1))=true then Ñ4 n else Ç3 p f (n + 1)) < n + (f + 1) ->
    O.klt (kk O key p (run _ (if O.blt (kk O key p n) (kk O key p (n - 1))=true then Ñ4 n else Ç3 p f (n + 1)))) (kk O key p (run _ (if O.blt (kk O key p n) (kk O key p (n - 1))=true then Ñ4 n else Ç3 p f (n + 1)) - 1)))
  cases hb:O.blt (kk O key p n) (kk O key p (n - 1)) with
  |true =>
   simp only[if_true];exact⟨Ì _,by show n<=n + (f + 1);omega,hu,λ_=>hb⟩
  |false =>
   simp only[É1,if_false];have ih:=n31 f (n + 1) ∅ (hu.more h1 hb)
   refine⟨by omega,by omega,ih.2.2.1,λh=>ih.2.2.2 ∅⟩
theorem rev_eq(hj:j<=p.size)(he:∀ k,i<=k->k < j->kk O key p k=kk O key p (j - 1))(k:Nat):kk O key (Ç2 p i j) k=kk O key p k:=by
 rw[n21 hj];split
 ·rw[he _ ∅ ∅,he k ∅ ∅]
 ·rfl
theorem H10(p:Array Nat)(i j:Nat):(Ç2 p i j).Perm p:=mirror_perm _ _ _ _
theorem H20(p:Array Nat)(i j:Nat):(Ç2 p i j).size=p.size:=mirror_size _ _ _ _
structure DnR(O:KeyOrd)(key:Nat->O.α)(p0 p:Array Nat)(n q:Nat):Prop where
 perm:p.Perm p0
 size:p.size=p0.size
 pos:q + 1<=n
 dn:Dn O key p n
 eq:∀ k,n - (q + 1)<=k->k < n->kk O key p k=kk O key p (n - 1)
theorem DnR.rev(h:DnR O key p0 p n q)(hn:n<=p0.size):DnR O key p0 (Ç2 p (n - (q + 1)) n) n q:=by
 have hz:=h.size;have e:=rev_eq (O:=O) (key:=key) (i:=n - (q + 1)) (j:=n) (p:=p) ∅ h.eq
 exact⟨(H10 _ _ _).trans h.perm,(H20 _ _ _).trans hz,h.pos,λi j hij hj=>by rw[e,e];exact h.dn i j hij hj,λk h1 h2=>by rw[e,e];exact h.eq k h1 h2⟩
theorem T00:∀ (f:Nat) (p:Array Nat) (n q:Nat),DnR O key p0 p n q->n + f<=p0.size ->
  n<=(run (k00 O key) (Â3 f p n q)).2.1/\(run (k00 O key) (Â3 f p n q)).2.1<=n + f /\
   DnR O key p0 (run (k00 O key) (Â3 f p n q)).1 (run (k00 O key) (Â3 f p n q)).2.1 (run (k00 O key) (Â3 f p n q)).2.2
 |0,p,n,q,h,_=>⟨Ì _,Ì _,h⟩
 |f + 1,p,n,q,h,hn=>by
  have hp:=h.pos;have hz:=h.size;have unf:run (k00 O key) (Â3 (f + 1) p n q)=run (k00 O key) (if O.blt (kk O key p n) (kk O key p (n - 1))=true then(if q > 0 then Â3 f (Ç2 p (n - (q + 1)) n) (n + 1) 0 else Â3 f p (n + 1) 0)
   else .ask (p.getD (n - 1) 0) (p.getD n 0) λd=>if d=true then .ret (p,n,q) else Â3 f p (n + 1) (q + 1)):=rfl
  rw[unf];cases hb:O.blt (kk O key p n) (kk O key p (n - 1)) with
  |true =>
   simp only[if_true];have go:∀ p',DnR O key p0 p' n q->(∀ k,kk O key p' k=kk O key p k)->n<=(run (k00 O key) (Â3 f p' (n + 1) 0)).2.1/\(run (k00 O key) (Â3 f p' (n + 1) 0)).2.1<=n + (f + 1) /\
     DnR O key p0 (run (k00 O key) (Â3 f p' (n + 1) 0)).1 (run (k00 O key) (Â3 f p' (n + 1) 0)).2.1 (run (k00 O key) (Â3 f p' (n + 1) 0)).2.2:=λp' h' e=>by
    have ih:=T00 f p' (n + 1) 0 ⟨h'.perm,h'.size,by omega,h'.dn.more ∅ (by rw[e,e];exact Î7 hb),λk h1 h2=>by
     have:k=n:=by omega
     subst this;rfl⟩ ∅
    exact⟨by omega,by omega,ih.2.2⟩
   split
   ·exact go _ (h.rev ∅) (rev_eq ∅ h.eq)
   ·exact go _ h λ_=>rfl
  |false =>
   simp only[É1,if_false];have unf2:run (k00 O key) (KasT.ask (p.getD (n - 1) 0) (p.getD n 0) λd=>if d=true then .ret (p,n,q) else Â3 f p (n + 1) (q + 1)) =
    run (k00 O key) (if O.blt (kk O key p (n - 1)) (kk O key p n)=true then .ret (p,n,q) else Â3 f p (n + 1) (q + 1)):=rfl
   rw[unf2];cases hc:O.blt (kk O key p (n - 1)) (kk O key p n) with
   |true =>
    simp only[if_true];exact⟨Ì _,by show n<=n + (f + 1);omega,h⟩
   |false =>
    simp only[É1,if_false];have e:kk O key p n=kk O key p (n - 1):=O.total _ _ hb hc;have ih:=T00 f p (n + 1) (q + 1) ⟨h.perm,h.size,by omega,h.dn.more ∅ (by rw[e];exact Æ1 _),λk h1 h2=>by
     show _=kk O key p n;by_cases hk:k=n
     ·rw[hk]
     ·rw[e];exact h.eq k ∅ ∅⟩ ∅
    exact⟨by omega,by omega,ih.2.2⟩
structure t72(O:KeyOrd)(key:Nat->O.α)(p0:Array Nat)(nrem:Nat)(r:Nat × Array Nat):Prop where
 perm:r.2.Perm p0
 size:r.2.size=p0.size
 lo:1<=r.1
 hi:r.1<=nrem
 up:Up O key r.2 r.1
theorem Z00(hp:p.Perm p0)(hz:p.size=p0.size)(hd:Dn O key p n)(h1:1<=n)(hn:n<=nrem)(hr:nrem<=p0.size):t72 O key p0 nrem (run (k00 O key) (kas_tail3 n nrem p)):=by
 unfold kas_tail3;rw[run_bind];have hu:Up O key (Ç2 p 0 n) n:=λi j hij hj=>by
  rw[n21 ∅,n21 ∅,if_pos ∅,if_pos ∅]
  exact hd _ _ ∅ ∅
 have a:=n31 (O:=O) (key:=key) (p:=Ç2 p 0 n) (nrem - n) n h1 hu;exact⟨(H10 _ _ _).trans hp,(H20 _ _ _).trans hz,by show 1<=run _ (Ç3 _ _ _);omega,by show run _ (Ç3 _ _ _)<=_;omega,a.2.2.1⟩
theorem z40(hp:p.Perm p0)(hz:p.size=p0.size)(hd:Dn O key p (n + 1))(hn:n + 1<=nrem)(hr:nrem<=p0.size):t72 O key p0 nrem (run (k00 O key) (Ï8 n nrem p)):=by
 unfold Ï8;rw[run_bind];have d:=T00 (O:=O) (key:=key) (p0:=p0) (nrem - (n + 1)) p (n + 1) 0 ⟨hp,hz,by omega,hd,λk h1 h2=>by
  have:k=n:=by omega
  subst this;rfl⟩ ∅
 obtain⟨d1,d2,d3⟩:=d;have hpos:=d3.pos;split
 ·have d4:=d3.rev ∅
  exact Z00 d4.perm d4.size d4.dn ∅ ∅ hr
 ·exact Z00 d3.perm d3.size d3.dn ∅ ∅ hr
theorem B41(h1:1<=nrem)(hr:nrem<=p.size):t72 O key p nrem (run (k00 O key) (Ü2 nrem p)):=by
 unfold Ü2;rw[run_bind];have a:=n31 (O:=O) (key:=key) (p:=p) (nrem - 1) 1 (Ì _) (λi j hij hj=>by
  have:i=j:=by omega
  subst this;exact Æ1 _)
 generalize run (k00 O key) (Ç3 p (nrem - 1) 1)=n at a ⊢;obtain⟨a1,a2,a3,a4⟩:=a;split
 ·exact⟨Ë4 _,rfl,a1,by show n<=nrem;omega,a3⟩
 ·rename_i hne;have hlt:n < nrem:=by
   have:n≠nrem:=by simpa using hne
   omega
  have hl:=a4 ∅
  split
  ·rename_i h2;have unf:run (k00 O key) (KasT.ask (p.getD 0 0) (p.getD (n - 1) 0) λc=>if c=true then .ret (n,p) else Ï8 n nrem (Ç2 p 0 n)) =
    run (k00 O key) (if O.blt (kk O key p 0) (kk O key p (n - 1))=true then .ret (n,p) else Ï8 n nrem (Ç2 p 0 n)):=rfl
   rw[unf];cases hb:O.blt (kk O key p 0) (kk O key p (n - 1)) with
   |true =>
    simp only[if_true];exact⟨Ë4 _,rfl,a1,by show n<=nrem;omega,a3⟩
   |false =>
    simp only[É1,if_false];have e0:kk O key p 0=kk O key p (n - 1):=O.total _ _ hb (a3 0 (n - 1) ∅ ∅)
    have e:∀ k,0<=k->k < n->kk O key p k=kk O key p (n - 1):=λk _ hk=>by
     refine KeyOrd.kle_antisymm (a3 k (n - 1) ∅ ∅) ?_
     rw[← e0];exact a3 0 k ∅ hk
    have er:=rev_eq (O:=O) (key:=key) (i:=0) (j:=n) (p:=p) ∅ e
    refine z40 (H10 _ _ _) (H20 _ _ _) ?_ ∅ hr
    have dn:Dn O key (Ç2 p 0 n) n:=λi j hij hj=>by
     rw[er,er,e i ∅ ∅,e j ∅ ∅];exact Æ1 _
    refine dn.more a1 ?_;rw[er,er];exact Î7 hl
  ·have h2:n=1:=by omega
   subst h2;refine z40 (Ë4 _) rfl ?_ ∅ hr
   have dn:Dn O key p 1:=λi j hij hj=>by
    have:i=j:=by omega
    subst this;exact Æ1 _
   exact dn.more (Ì _) (Î7 hl)
theorem H30(hu:Up O key p k):∀ (f l r:Nat),l<=r->r<=k->r - l<=f->(∀ i,i < l->O.kle (kk O key p i) (kk O key p k))->(∀ i,r<=i->i < k->O.klt (kk O key p k) (kk O key p i)) ->
  run (k00 O key) (Ã2 p k f l r)<=k/\(∀ i,i < run (k00 O key) (Ã2 p k f l r)->O.kle (kk O key p i) (kk O key p k))/\(∀ i,run (k00 O key) (Ã2 p k f l r)<=i->i < k->O.klt (kk O key p k) (kk O key p i))
 |0,l,r,h1,h2,h3,h4,h5=>by
  have:l=r:=by omega
  subst this;exact⟨h2,h4,h5⟩
 |f + 1,l,r,h1,h2,h3,h4,h5=>by
  have unf:Ã2 p k (f + 1) l r=(if l ≥ r then .ret l else .ask (p.getD k 0) (p.getD ((l + r) / 2) 0) λc=>if c=true then Ã2 p k f l ((l + r) / 2) else Ã2 p k f ((l + r) / 2 + 1) r):=rfl;rw[unf];by_cases hlr:l ≥ r
  ·rw[if_pos hlr];have:l=r:=by omega
   subst this;exact⟨h2,h4,h5⟩
  ·rw[if_neg hlr];have unf2:run (k00 O key) (KasT.ask (p.getD k 0) (p.getD ((l + r) / 2) 0) λc=>if c=true then Ã2 p k f l ((l + r) / 2) else Ã2 p k f ((l + r) / 2 + 1) r) =
    run (k00 O key) (if O.blt (kk O key p k) (kk O key p ((l + r) / 2))=true then Ã2 p k f l ((l + r) / 2) else Ã2 p k f ((l + r) / 2 + 1) r):=rfl
   rw[unf2];cases hb:O.blt (kk O key p k) (kk O key p ((l + r) / 2)) with
   |true =>
    simp only[if_true];exact H30 hu f l ((l + r) / 2) ∅ ∅ ∅ h4 λi hi hk=>KeyOrd.klt_of_klt_of_kle hb (hu _ i hi hk)
   |false =>
    simp only[É1,if_false];exact H30 hu f ((l + r) / 2 + 1) r ∅ ∅ ∅ (λi hi=>Ø2 (hu i ((l + r) / 2) ∅ ∅) hb) h5
theorem J71:∀ (f:Nat) (p:Array Nat) (k:Nat),p.Perm p0->p.size=p0.size->Up O key p k->k + f<=p0.size ->
  (run (k00 O key) (kas_bin f p k)).Perm p0/\Up O key (run (k00 O key) (kas_bin f p k)) (k + f)
 |0,p,k,hp,_,hu,_=>⟨hp,hu⟩
 |f + 1,p,k,hp,hz,hu,hk=>by
  have unf:kas_bin (f + 1) p k=(Ã2 p k k 0 k).bind λl=>kas_bin f (bubble p k (k - l)) (k + 1):=rfl;rw[unf,run_bind];have pl:=H30 (O:=O) (key:=key) hu k 0 k ∅ ∅ ∅ (λi hi=>absurd hi (Ô2 _)) (λi h1 h2=>absurd h2 ∅)
  generalize run (k00 O key) (Ã2 p k k 0 k)=l at pl ⊢;obtain⟨l1,l2,l3⟩:=pl;have hb:=d92 (O:=O) (key:=key) (p:=p) (k:=k) (d:=k - l) ∅ ∅
  have hu':Up O key (bubble p k (k - l)) (k + 1):=λi j hij hj=>by
   rw[hb,hb];have el:k - (k - l)=l:=by omega
   rw[el];by_cases ei:i=l
   ·rw[if_pos ei];by_cases ej:j=l
    ·rw[if_pos ej];exact Æ1 _
    ·rw[if_neg ej,if_pos ∅]
     exact Î7 (l3 _ ∅ ∅)
   ·rw[if_neg ei];by_cases hi:l < i/\i<=k
    ·rw[if_pos hi,if_neg ∅,if_pos ∅]
     exact hu _ _ ∅ ∅
    ·rw[if_neg hi];by_cases ej:j=l
     ·rw[if_pos ej];exact l2 _ ∅
     ·rw[if_neg ej];by_cases hj':l < j/\j<=k
      ·rw[if_pos hj'];exact hu _ _ ∅ ∅
      ·rw[if_neg hj'];exact hu _ _ hij ∅
  have ih:=J71 (p0:=p0) f (bubble p k (k - l)) (k + 1) ((bubble_perm _ _ _).trans hp) ((bubble_size _ _ _).trans hz) hu' ∅
  exact⟨ih.1,by have:=ih.2;rwa [show k + 1 + f=k + (f + 1) by omega] at this⟩
theorem O91(h1:1<=n):(run (k00 O key) (Ð6 n)).Perm (Ú n).toArray/\Up O key (run (k00 O key) (Ð6 n)) n:=by
 unfold Ð6;rw[run_bind];have c:=B41 (O:=O) (key:=key) (p:=(Ú n).toArray) h1 (by simp)
 generalize run (k00 O key) (Ü2 n (Ú n).toArray)=r at c ⊢;obtain⟨c1,c2,c3,c4,c5⟩:=c;split
 ·have b:=J71 (O:=O) (key:=key) (n - max r.1 1) r.2 (max r.1 1) c1 c2 (by rw[Nat.max_eq_left c3];exact c5) (by simp;omega)
  exact⟨b.1,by have:=b.2;rwa [show max r.1 1 + (n - max r.1 1)=n by omega] at this⟩
 ·have:r.1=n:=by omega
  rw[this] at c5;exact⟨c1,c5⟩
end
def m00{α:Type}(n:Nat):KasT α->Prop
 |.ret _=>True|.ask i j k=>(i < n/\j < n)/\∀ b,m00 n (k b)
def N20{α:Type}(G:α->Prop):KasT α->Prop
 |.ret a=>G a|.ask _ _ k=>∀ b,N20 G (k b)
theorem m00.bind{α β:Type}{n:Nat}{f:α->KasT β}{G:α->Prop}(hf:∀ a,G a->m00 n (f a)):∀ {t:KasT α},m00 n t->N20 G t->m00 n (t.bind f)
 |.ret a,_,g=>hf a g|.ask _ _ _,h,g=>⟨h.1,λb=>m00.bind hf (h.2 b) (g b)⟩
theorem N20.bind{α β:Type}{f:α->KasT β}{G:α->Prop}{G':β->Prop}(hf:∀ a,G a->N20 G' (f a)):∀ {t:KasT α},N20 G t->N20 G' (t.bind f)
 |.ret a,g=>hf a g|.ask _ _ _,g=>λb=>N20.bind hf (g b)
def Low(n:Nat)(p:Array Nat):Prop:=∀ i,p.getD i 0 < n
theorem n41(h1:1<=n)(hp:p.Perm q)(hq:∀ x∈q.toList,x < n):Low n p:=λi=>by
 by_cases hi:i < p.size
 ·have e:p.getD i 0=p[i]:=by simp[getD,hi]
  rw[e];exact hq _ (hp.toList.mem_iff.mp (by simp))
 ·have e:p.getD i 0=0:=by simp[getD,hi]
  rw[e];exact h1
structure Good(n:Nat)(q p:Array Nat):Prop where
 low:Low n p
 perm:p.Perm q
theorem Good.rev(h1:1<=n)(hq:∀ x∈q.toList,x < n)(g:Good n q p)(i j:Nat):Good n q (Ç2 p i j) :=
 have e:=(mirror_perm p i j ((j - i) / 2)).trans g.perm
 ⟨n41 h1 e hq,e⟩
theorem Good.bub(h1:1<=n)(hq:∀ x∈q.toList,x < n)(g:Good n q p)(i j:Nat):Good n q (bubble p i j) :=
 have e:=(bubble_perm p i j).trans g.perm
 ⟨n41 h1 e hq,e⟩
section
variable {n:Nat}{q:Array Nat}
theorem H40(g:Low n p):∀ (f k:Nat),m00 n (Ç3 p f k)
 |0,_=>trivial|f + 1,k=>⟨⟨g _,g _⟩,λb=>by cases b with | true=>exact trivial | false=>exact H40 g f (k + 1)⟩
theorem r80:∀ (f k:Nat),N20 (λ_=>True) (Ç3 p f k)
 |0,_=>trivial|f + 1,k=>λb=>by cases b with | true=>exact trivial | false=>exact r80 f (k + 1)
theorem z50(h1:1<=n)(hq:∀ x∈q.toList,x < n):∀ (f:Nat) (p:Array Nat) (k c:Nat),Good n q p->m00 n (Â3 f p k c)/\N20 (λr=>Good n q r.1) (Â3 f p k c)
 |0,p,k,c,g=>⟨trivial,g⟩
 |f + 1,p,k,c,g=>by
  have a:=λp' k' c' g'=>(z50 h1 hq f p' k' c' g').1;have r:=λp' k' c' g'=>(z50 h1 hq f p' k' c' g').2;refine⟨⟨⟨g.low _,g.low _⟩,λb=>?_⟩,λb=>?_⟩
  ·cases b with
   |true =>
    show m00 n (if c > 0 then Â3 f (Ç2 p (k - (c + 1)) k) (k + 1) 0 else Â3 f p (k + 1) 0);split
    ·exact a _ _ _ (g.rev h1 hq _ _)
    ·exact a _ _ _ g
   |false=>exact⟨⟨g.low _,g.low _⟩,λd=>by cases d with | true=>exact trivial | false=>exact a _ _ _ g⟩
  ·cases b with
   |true =>
    show N20 _ (if c > 0 then Â3 f (Ç2 p (k - (c + 1)) k) (k + 1) 0 else Â3 f p (k + 1) 0);split
    ·exact r _ _ _ (g.rev h1 hq _ _)
    ·exact r _ _ _ g
   |false=>exact λd=>by cases d with | true=>exact g | false=>exact r _ _ _ g
theorem o10(h1:1<=n)(hq:∀ x∈q.toList,x < n)(g:Good n q p)(k m:Nat):m00 n (kas_tail3 k m p)/\N20 (λr=>Good n q r.2) (kas_tail3 k m p) :=
 have g':=g.rev h1 hq 0 k
 And.intro (m00.bind (f:=λm'=>Ñ4 (m',Ç2 p 0 k)) (λ_ _=>É2) (H40 g'.low (m - k) k) (r80 (m - k) k)) (N20.bind (f:=λm'=>Ñ4 (m',Ç2 p 0 k)) (G':=λr=>Good n q r.2) (λ_ _=>g') (r80 (m - k) k))
theorem h20(h1:1<=n)(hq:∀ x∈q.toList,x < n)(g:Good n q p)(k m:Nat):m00 n (Ï8 k m p)/\N20 (λr=>Good n q r.2) (Ï8 k m p):=by
 have d:=z50 h1 hq (m - (k + 1)) p (k + 1) 0 g;refine⟨m00.bind (λr gr=>?_) d.1 d.2,N20.bind (λr gr=>?_) d.2⟩
 ·split
  ·exact(o10 h1 hq (gr.rev h1 hq _ _) _ _).1
  ·exact(o10 h1 hq gr _ _).1
 ·split
  ·exact(o10 h1 hq (gr.rev h1 hq _ _) _ _).2
  ·exact(o10 h1 hq gr _ _).2
theorem g01(h1:1<=n)(hq:∀ x∈q.toList,x < n)(g:Good n q p)(m:Nat):m00 n (Ü2 m p)/\N20 (λr=>Good n q r.2) (Ü2 m p):=by
 refine⟨m00.bind (λk _=>?_) (H40 g.low _ _) (r80 _ _),N20.bind (λk _=>?_) (r80 _ _)⟩
 ·split
  ·exact trivial
  ·split
   ·exact⟨⟨g.low _,g.low _⟩,λb=>by cases b with | true=>exact trivial | false=>exact(h20 h1 hq (g.rev h1 hq _ _) _ _).1⟩
   ·exact(h20 h1 hq g _ _).1
 ·split
  ·exact g
  ·split
   ·exact λb=>by cases b with | true=>exact g | false=>exact(h20 h1 hq (g.rev h1 hq _ _) _ _).2
   ·exact(h20 h1 hq g _ _).2
theorem h60(g:Low n p)(k:Nat):∀ (f l r:Nat),m00 n (Ã2 p k f l r)/\N20 (λ_=>True) (Ã2 p k f l r)
 |0,_,_=>⟨trivial,trivial⟩
 |f + 1,l,r=>by
  have e:Ã2 p k (f + 1) l r=(if l ≥ r then .ret l else .ask (p.getD k 0) (p.getD ((l + r) / 2) 0) λc=>if c=true then Ã2 p k f l ((l + r) / 2) else Ã2 p k f ((l + r) / 2 + 1) r):=rfl;rw[e];split
  ·exact⟨trivial,trivial⟩
  ·refine⟨⟨⟨g _,g _⟩,λb=>?_⟩,λb=>?_⟩
   ·cases b with
    |true=>exact(h60 g k f _ _).1|false=>exact(h60 g k f _ _).1
   ·cases b with
    |true=>exact(h60 g k f _ _).2|false=>exact(h60 g k f _ _).2
theorem Z10(h1:1<=n)(hq:∀ x∈q.toList,x < n):∀ (f:Nat) (p:Array Nat) (k:Nat),Good n q p->m00 n (kas_bin f p k)
 |0,_,_,_=>trivial|f + 1,p,k,g=>m00.bind (λl _=>Z10 h1 hq f _ _ (g.bub h1 hq _ _)) (h60 g.low k k 0 k).1 (h60 g.low k k 0 k).2
theorem n51(h1:1<=n):m00 n (Ð6 n):=by
 have hq:∀ x∈((Ú n).toArray).toList,x < n:=λx hx=>by simpa using hx
 have g:Good n (Ú n).toArray (Ú n).toArray:=⟨n41 h1 (Ë4 _) hq,Ë4 _⟩;have c:=g01 h1 hq g n;refine m00.bind (λr gr=>?_) c.1 c.2;split
 ·exact Z10 h1 hq _ _ _ gr
 ·exact trivial
end
theorem N30{α:Type}{n:Nat}{cmp:Nat->Nat->Bool}{ask:Nat->Nat->(Bool->Å->Prop)->Å->Prop}{s:Å}(h:∀ i j (C:Bool->Å->Prop),i < n->j < n->C (cmp i j) s->ask i j C s){Q:α->Å->Prop} :
  ∀ (t:KasT α),m00 n t->Q (run cmp t) s->t.kasWp ask Q s
 |.ret _,_,q=>q|.ask i j k,a,q=>h i j _ a.1.1 a.1.2 (N30 h (k (cmp i j)) (a.2 _) q)
def f80:List Int->List Int->Bool
 |[],[]=>false|[],_::_=>true|_::_,[]=>false|x::r,y::q=>if x=y then f80 r q else decide (x < y)
theorem h90:∀ a,f80 a a=false
 |[]=>rfl|x::r=>by show(if x=x then f80 r r else _)=_;rw[if_pos rfl];exact h90 r
theorem o20:∀ a b c,f80 a b=true->f80 b c=true->f80 a c=true
 |[],[],_,h,_=>by cases h
 |[],_::_,[],_,h=>by cases h
 |[],_::_,_::_,_,_=>rfl|_::_,[],_,h,_=>by cases h
 |_::_,_::_,[],_,h=>by cases h
 |x::a,y::b,z::c,h1,h2=>by
  have h1:(if x=y then f80 a b else decide (x < y))=true:=h1;have h2:(if y=z then f80 b c else decide (y < z))=true:=h2;show(if x=z then f80 a c else decide (x < z))=true;by_cases e1:x=y
  ·rw[if_pos e1] at h1;by_cases e2:y=z
   ·rw[if_pos e2] at h2;rw[if_pos (e1.trans e2)];exact o20 a b c h1 h2
   ·rw[if_neg e2] at h2;rw[if_neg ∅]
    rw[e1];exact h2
  ·rw[if_neg e1] at h1;have l1:x < y:=by simpa using h1
   by_cases e2:y=z
   ·rw[if_neg ∅];exact decide_eq_true ∅
   ·rw[if_neg e2] at h2;have l2:y < z:=by simpa using h2
    rw[if_neg ∅];exact decide_eq_true ∅
theorem k30:∀ a b,f80 a b=false->f80 b a=false->a=b
 |[],[],_,_=>rfl|[],_::_,h,_=>by cases h
 |_::_,[],_,h=>by cases h
 |x::a,y::b,h1,h2=>by
  have h1:(if x=y then f80 a b else decide (x < y))=false:=h1;have h2:(if y=x then f80 b a else decide (y < x))=false:=h2;by_cases e:x=y
  ·subst e;rw[if_pos rfl] at h1 h2;rw[k30 a b h1 h2]
  ·rw[if_neg e] at h1;rw[if_neg (Á0 e)] at h2;have l1:¬ x < y:=by simpa using h1
   have l2:¬ y < x:=by simpa using h2
   omega
theorem Z20(a b c:List Int)(h:f80 a c=true):f80 a b=true∨f80 b c=true:=by
 cases hab:f80 a b with
 |true=>exact .inl rfl
 |false =>
  right;cases hba:f80 b a with
  |true=>exact o20 b a c hba h|false=>rw[← k30 a b hab hba];exact h
def P01:KeyOrd:=⟨List Int,f80,h90,o20,Z20,k30⟩
section
variable {P:ß}{w:ò}{A:ù}{E:Ã->Å->Prop}{s:Å}
def sortedBy(ks:List (List Int))(p:List Nat):Prop:=p.Perm (Ú ks.length)/\(p.map λi=>ks.getD i []).Pairwise λx y=>f80 y x=false
theorem range_getD(d:α):∀ (l:List α),(Ú l.length).map (λi=>l.getD i d)=l:=λl=>by
 refine List.ext_getElem (by simp) λi h1 h2=>?_
 simp at h1;simp[h1]
def t82(P:ß)(w:ò)(A:ù)(s:Å)(vs:List Ã)(Pr:List Nat->Prop)(kd:Ê0):Prop:=∃ p:List Nat,Pr p/\∀ (E:Ã->Å->Prop) (Q:Unit × Á8->Å->Prop),(∀ st',failedOf st'=none->arrOf st'=(p.toArray).map (ô (vs.toArray.zip vs.toArray))->Q ((),st') s)->Ó (Ü P w) A (sortRuns'.run (Ë0 kd (vs.toArray.zip vs.toArray) #[] 7 none)) Q E s
structure Z51(P:Program)(w:World)(A:Around)(s:Shared)(vs:List Value)(Pr:List Nat->Prop)(kd:SortKind):Prop where
 len:vs.length<=1000
 few:vs.length < 2->Pr (range vs.length)
 all:∀ p,Pr p->p.length=vs.length
 kind:2<=vs.length->∀ (E:Value->Shared->Prop) (Q:SortKind->Shared->Prop),Q kd s->wpAny (model P w) A (keyKind' vs.toArray) Q E s
 run:2<=vs.length->t82 P w A s vs Pr kd
theorem e02(hl:n=ks.length)(h2:n < 2):sortedBy ks (Ú n):=by
 subst hl;refine⟨.refl _,?_⟩;rw[range_getD]
 match ks,h2 with
 |[],_=>exact .nil|[_],_=>simp|_::_::_,q=>simp at q;omega
theorem P11{vs:List Ã}{ks:List (List Int)}{kd:Ê0}(hlen:vs.length=ks.length)(h64:vs.length < 64)(ask:∀ i j,i < vs.length->j < vs.length->∀ (E:Ã->Å->Prop) (C:Bool->Å->Prop),C (f80 (ks.getD i []) (ks.getD j [])) s->Ó (Ü P w) A (keyLt' kd (vs.getD i é) (vs.getD j é)) C E s)(h2':2<=vs.length):t82 P w A s vs (sortedBy ks) kd:=by
 have so:=O91 (O:=P01) (key:=λi=>ks.getD i []) (n:=vs.length) ∅
 refine⟨(run (k00 P01 λi=>ks.getD i []) (Ð6 vs.length)).toList,?_,λE Q q=>?_⟩
 ·generalize run (k00 P01 λi=>ks.getD i []) (Ð6 vs.length)=p at so;refine⟨?_,?_⟩
  ·have:=so.1.toList;rw[hlen] at this;simpa using this
  ·rw[List.pairwise_iff_getElem];intro i j hi hj hij;have hsz:p.size=vs.length:=by have:=so.1.size_eq;simpa using this
   have hi':i < p.size:=by simpa using hi
   have hj':j < p.size:=by simpa using hj
   have u:=so.2 i j (Í6 hij) ∅
   have g:∀ k,k < p.size->kk P01 (λi=>ks.getD i []) p k=ks.getD (p.toList.getD k 0) []:=λk hk=>by show ks.getD (p.getD k 0) []=_;rw[Í1,Ö (l:=p.toList),ü]
   have u':f80 (ks.getD (p.toList.getD j 0) []) (ks.getD (p.toList.getD i 0) [])=false:=by
    have:=u;unfold KeyOrd.kle at this;rw[g i hi',g j hj'] at this;exact this
   simpa [hi',hj'] using u'
 ·refine Â5 (kat_run (s:=s) (Q:=λst' s'=>s'=s/\failedOf st'=none/\arrOf st'=(run (k00 P01 λi=>ks.getD i []) (Ð6 vs.length)).map (ô (vs.toArray.zip vs.toArray)))
   (G:=λp s'=>s'=s/\p=run (k00 P01 λi=>ks.getD i []) (Ð6 vs.length)) rfl h2' h64 (λp st' s' a1 a2 a3 a4=>⟨a4.1,a3,by rw[a2,a4.2]⟩)
   (N30 (n:=vs.length) (cmp:=k00 P01 λi=>ks.getD i []) (λi j C hi hj hC=>ask i j hi hj _ C hC) (Ð6 vs.length) (n51 ∅) ⟨rfl,rfl⟩)) ?_ λ_ _ e=>e
  rintro ⟨⟨⟩,st'⟩ s' ⟨hs',hf,har⟩;subst hs';exact q st' hf har
def n61(h h':ë):Prop:=∀ b o,h.get? b=some o->o.cls=.type "tuple"->h'.get? b=some o
theorem B51{a:Æ}{vs:List Ã}{Pr:List Nat->Prop}{kd:Ê0}{n:Nat}{R:PySem.Fin->Å->Prop}(ho:s.heap.get? a=some (Â9 "list" vs.toArray n))(hk:∀ h',n61 s.heap h'->Z51 P w A { s with heap:=h' } vs Pr kd)
  (h:∀ (p:List Nat) (h':ë) (c:Nat),Pr p->(∀ b o,b≠a->s.heap.get? b=some o->h'.get? b=some o)->h'.get? a=some (Â9 "list" (p.map λi=>vs.getD i é).toArray c)->R (.done (.ret .none)) { s with heap:=h' }) :
  Ó (Ü P w) A (Ä2.«list.sort» ⟨[.ref a],[]⟩) R E s:=by
 have ha:a < s.heap.objs.size:=á ho;have h64:=(hk s.heap λ_ _ e _=>e).len;have s1:=Ê7 s.heap a (À4 λ_=>(#[]:Array Ã));obtain⟨e1,ho1⟩:∃ e1,(s.heap.update a (À4 λ_=>(#[]:Array Ã))).get? a=some (Â9 "list" #[] e1):=⟨_,Ý2 ho λ_=>#[]⟩;have kp:∀ b o,b≠a->s.heap.get? b=some o->(((s.heap.update a (À4 λ_=>(#[]:Array Ã))).push (Â9 "tuple" vs.toArray 0)).push (Â9 "list" #[] 0)).get? b=some o:=λb o hb e=>Ä _ (Ä _ ((s1.2 b hb).trans e));have ho6:(((s.heap.update a (À4 λ_=>(#[]:Array Ã))).push (Â9 "tuple" vs.toArray 0)).push (Â9 "list" #[] 0)).get? a=some (Â9 "list" #[] e1):=Ä _ (Ä _ ho1);have hk6:=hk (((s.heap.update a (À4 λ_=>(#[]:Array Ã))).push (Â9 "tuple" vs.toArray 0)).push (Â9 "list" #[] 0)) (λb o e hc=>kp b o (λq=>by subst q;rw[ho] at e;cases e;have hc':Ã5 "list"=Ã5 "tuple":=hc;injection hc' with hc';exact absurd hc' (-0)) e)
 rw[list_sort_plain];refine À (Ï7 ho rfl (À (Ù1 ho rfl ?_ (by rw[Õ,Â8];omega) (Æ6 _))))
 refine À (seqEpoch_at ho1 rfl (À (wpAny_newTuple ?_ (by show vs.length<=_;rw[Â8];omega))));refine À (wpAny_newList (Å1 ?_) (Æ6 _))
 show Ó (Ü P w) A _ R E { s with heap:=((s.heap.update a (À4 λ_=>(#[]:Array Ã))).push (Â9 "tuple" vs.toArray 0)).push (Â9 "list" #[] 0) };generalize hH:((s.heap.update a (À4 λ_=>(#[]:Array Ã))).push (Â9 "tuple" vs.toArray 0)).push (Â9 "list" #[] 0)=h6 at kp ho6 hk6 ⊢;have fin:∀ (p:List Nat) (out:Array Ã),out=(p.map λi=>vs.getD i é).toArray->Pr p->Ó (Ü P w) A (do
   let touched:=(← seqEpoch a) != e1
   Ä2.List.listUpdate (.ref a) λ_=>out
   if touched then rule "list.sort.modified";raiseError "ValueError" "list modified during sort"
   ret .none) R E { s with heap:=h6 }:=λp out eo hp=>by
  subst eo;have hsz:(p.map λi=>vs.getD i é).toArray.size=vs.length:=by rw[Õ,Ç,(hk s.heap λ_ _ e _=>e).all p hp]
  have s2:=Ê7 h6 a (À4 λ_=>(p.map λi=>vs.getD i é).toArray);refine À (seqEpoch_at ho6 rfl (À (Ù1 ho6 rfl ?_ (Æ6 _) (Ò (Ø6 hsz) (by rw[Â8];omega)))))
  simp only[bne_self_eq_false,É1,if_false];exact Ë (h p _ _ hp (λb o hb e=>(s2.2 b hb).trans (kp b o hb e)) (Ý2 ho6 λ_=>(p.map λi=>vs.getD i é).toArray))
 dsimp only;by_cases h2:vs.toArray.size < 2
 ·rw[if_pos h2,if_pos h2];refine À (Ë ?_);rw[StateT.run_pure];refine À (Ë ?_);dsimp only;refine fin (Ú vs.length) _ ?_ ((hk s.heap λ_ _ e _=>e).few (by simpa using h2))
  rw[range_getD];apply Array.toList_inj.mp;rw[Array.toList_map];show List.map _ (vs.toArray.zip vs.toArray).toList=vs;rw[ksk_zip];exact List.map_snd_zip (Ì _)
 ·rw[if_neg h2,if_neg h2];have h2':2<=vs.length:=by simpa using h2
  refine À (hk6.kind h2' _ _ ?_);obtain⟨p,hp,hr⟩:=hk6.run h2';refine À (hr _ _ λst' hf har=>?_);dsimp only;rw[hf];exact fin p _ (kat_snds rfl har) hp
end
end MySort
namespace TS
open PySem PySem.W PyProof.Rows
structure Tw where
 a:Array Nat
 pending:Array (Nat × Nat × Nat)
 minGallop:Nat
abbrev TM:=StateT Tw Option
section
variable (n:Nat) (cmp:Nat->Nat->Bool)
def ltT(x y:Nat):TM Bool:=if x < n/\y < n then pure (cmp x y) else λ_=>none
def n71(arr:Array Nat)(i:Nat):TM Nat:=match arr.toList[i]? with
 |some p=>pure p|none=>λ_=>none
def P21(i j:Nat):TM Bool:=do
 let a:=(← get).a
 ltT n cmp (← n71 a i) (← n71 a j)
def D02(i j:Nat):TM Unit:=modify λs=>{ s with a:=mirror s.a i j ((j - i) / 2) }
def mvL(a:Array Nat)(src dst:Nat):Array Nat:=⟨a.toList.take dst++((a.toList.drop src).take 1++((a.toList.take src).drop dst++a.toList.drop (src + 1)))⟩
theorem e12(h:src < a.size)(h2:dst<=src):mvL a src dst=bubble a src (src - dst):=by
 apply Array.ext_getElem?;intro k;rw[getElem?_bubble h (src - dst) ∅ k,show src - (src - dst)=dst by omega]
 have hl:src < a.toList.length:=h;rw[← ü,← ü,← ü,← ü];show(a.toList.take dst++((a.toList.drop src).take 1++((a.toList.take src).drop dst++a.toList.drop (src + 1))))[k]?=_;generalize a.toList=l at hl;rw[Ó5,Ó5,Ó5,Ä5,Ä5,É9,É9,Ä5,show min dst l.length=dst by omega,show min 1 (l.length - src)=1 by omega,show min src l.length - dst=src - dst by omega,Õ9,Õ9,Ö0,Ö0,Ö0,Õ9]
 by_cases c1:k < dst
 ·rw[if_pos c1,if_pos c1,if_neg ∅,if_neg ∅]
 ·rw[if_neg c1];by_cases c2:k=dst
  ·rw[if_pos ∅,if_pos ∅,if_pos c2,show src + (k - dst)=src by omega]
  ·rw[if_neg ∅,if_neg c2]
   by_cases c3:k<=src
   ·rw[if_pos ∅,if_pos ∅,if_pos ∅,show dst + (k - dst - 1)=k - 1 by omega]
   ·rw[if_neg ∅,if_neg ∅,show src + 1 + (k - dst - 1 - (src - dst))=k by omega]
def P31(src dst:Nat):TM Unit:=λt=>if src < t.a.size/\dst<=src then some ((),{ t with a:=mvL t.a src dst }) else none
end
section
variable {prog:ß}{w:ò}{A:ù}{E:Ã->Å->Prop}{s:Å}{κ:Ê0}{it:Array Keyed}{n:Nat}{cmp:Nat->Nat->Bool}
def co(κ:Ê0)(it:Array Keyed)(t:Tw):SortSt:=Ë0 κ (t.a.map (ô it)) t.pending t.minGallop none
def Sim(prog:ß)(w:ò)(A:ù)(E:Ã->Å->Prop)(s:Å)(κ:Ê0)(it:Array Keyed){α β:Type}(rel:β->α)(m:StateT Á8 Sem α)(f:TM β):Prop :=
 ∀ (t:Tw) (b:β) (t':Tw),f t=some (b,t')->∀ Q:α->Á8->Å->Prop,Q (rel b) (co κ it t') s->kasC (Ü prog w) A E m Q (co κ it t) s
local macro_rules | `(tactic| trivial)=>`(tactic| skip)
section
variable {α β α' β':Type}{r:β->α}{r':β'->α'}
theorem y10(b:β)(e:a=r b):Sim prog w A E s κ it r (pure a) (pure b):=λt b' t' h Q q=>by
 cases h;subst e;exact kasC_pure q
theorem l00(h:Sim prog w A E s κ it r m f)(hk:∀ b,Sim prog w A E s κ it r' (k (r b)) (g b)):Sim prog w A E s κ it r' (m >>= k) (f >>= g):=λt b t' e Q q=>by
 have e:(f t).bind (λx=>g x.1 x.2)=some (b,t'):=e;obtain⟨⟨b1,t1⟩,e1,e2⟩:=Í.mp e;exact kasC_bind (h t b1 t1 e1 _ (hk b1 t1 b t' e2 Q q))
theorem T10:Sim prog w A E s κ it (co κ it) (get:StateT Á8 Sem Á8) (get:TM Tw):=λt b t' e Q q=>by
 cases e;exact kasC_get q
theorem o30(h:∀ t,F (co κ it t)=co κ it (G t)):Sim prog w A E s κ it (λu:Unit=>u) (modify F:StateT Á8 Sem Unit) (modify G:TM Unit):=λt b t' e Q q=>by
 cases e;refine kasC_modify ?_;rw[h t];exact q
theorem B61:Sim prog w A E s κ it (λu:Unit=>u) (liftM (rule x):StateT Á8 Sem Unit) (pure ():TM Unit):=λt b t' e Q q=>by
 cases e;exact kasC_lift (Ð3 q)
theorem P41[Decidable c](h1:c->Sim prog w A E s κ it r m f)(h2:¬ c->Sim prog w A E s κ it r m' f'):Sim prog w A E s κ it r (if c then m else m') (if c then f else f'):=by
 split
 ·exact h1 (by assumption)
 ·exact h2 (by assumption)
def x50(r:β->α):ForInStep β->ForInStep α
 |.done b=>.done (r b)|.yield b=>.yield (r b)
theorem Z30(h:∀ x b,Sim prog w A E s κ it (x50 r) (body x (r b)) (body' x b)):∀ (l:List Nat) (b:β),Sim prog w A E s κ it r (forIn l (r b) body) (forIn l b body')
 |[],b=>by
  rw[Õ3,Õ3];exact y10 b rfl
 |x::l,b=>by
  rw[Ì1,Ì1];refine l00 (h x b) λst=>?_;cases st with
  |done b'=>exact y10 b' rfl|yield b'=>exact Z30 h l b'
end
def Ora(prog:ß)(w:ò)(A:ù)(s:Å)(κ:Ê0)(it:Array Keyed)(n:Nat)(cmp:Nat->Nat->Bool):Prop:=∀ i j (C:Bool->Å->Prop),i < n->j < n->C (cmp i j) s->kas_cmp prog w A κ it i j C s
theorem J81(O:Ora prog w A s κ it n cmp)(x y:Nat):Sim prog w A E s κ it (λo:Bool=>some o) (lt' (ô it x) (ô it y)) (ltT n cmp x y):=λt b t' e Q q=>by
 unfold ltT at e;split at e
 ·rename_i h;cases e;rw[lt'_eq];refine kasC_bind (kasC_get ?_);exact kasC_bind (kasC_lift (Ò3 (Â5 (O x y (λc s'=>s'=s/\c=cmp x y) h.1 h.2 ⟨rfl,rfl⟩) (λc s' hc=>by obtain⟨rfl,rfl⟩:=hc;exact kasC_pure q) λ_ _ hF=>hF.elim)))
 ·cases e
theorem H50(p:Array Nat)(i:Nat):Sim prog w A E s κ it (ô it) (elem' (p.map (ô it)) i) (n71 p i):=by
 rw[elem'_eq];unfold n71;rw[Array.getElem?_map,ü];cases p[i]? with
 |none=>exact λt b t' e=>by cases e
 |some x=>exact y10 x rfl
theorem B71(O:Ora prog w A s κ it n cmp)(i j:Nat):Sim prog w A E s κ it (λo:Bool=>some o) (ltAt' i j) (P21 n cmp i j):=by
 rw[ltAt'_eq];unfold P21;refine l00 T10 λt=>?_;exact l00 (H50 t.a i) λx=>l00 (H50 t.a j) λy=>J81 O x y
theorem P51(i j:Nat):Sim prog w A E s κ it (λu:Unit=>u) (reverseSlice' i j) (D02 i j):=by
 rw[reverseSlice'_eq];refine o30 λt=>?_;show Ë0 κ (mirror (t.a.map (ô it)) i j ((j - i) / 2)) t.pending t.minGallop none=Ë0 κ ((mirror t.a i j ((j - i) / 2)).map (ô it)) t.pending t.minGallop none;rw[show mirror (t.a.map (ô it)) i j ((j - i) / 2)=(mirror t.a i j ((j - i) / 2)).map (ô it) from kas_swaps_map (ô it) (λk=>i + k) (λk=>j - 1 - k) _ t.a]
theorem B81(k l:Nat):Sim prog w A E s κ it (λu:Unit=>u) (moveDown' k l) (P31 k l):=λt b t' e Q q=>by
 rw[moveDown'_eq];unfold P31 at e;split at e
 ·rename_i h;cases e;refine kasC_modify ?_;have e:bubble (t.a.map (ô it)) k (k - l)=(mvL t.a k l).map (ô it):=by
   rw[e12 h.1 h.2];exact kas_swaps_map (ô it) (λi=>k - i) (λi=>k - i - 1) _ t.a
  show Q () (Ë0 κ (bubble (t.a.map (ô it)) k (k - l)) t.pending t.minGallop none) s;rw[e];exact q
 ·cases e
def r90{β:Type}(f:Nat->β->TM (ForInStep β)):Nat->Nat->β->TM β
 |0,_,b=>pure b
 |n + 1,i,b=>f i b >>= λx=>match x with
  |.done b=>pure b|.yield b=>r90 f n (i + 1) b
theorem Z40(f:Nat->β->TM (ForInStep β)):∀ (n i:Nat) (b:β),r90 f n i b=forIn (Ã3 i n 1) b f
 |0,_,_=>by rw[List.range'_zero,Õ3];rfl
 |n + 1,i,b=>by
  rw[Ä4,Ì1];show(f i b >>= λx=>_)=_
  congr 1
  funext x
  cases x with
  |done b=>rfl|yield b=>exact Z40 f n (i + 1) b
theorem H60{α β:Type}{r:β->α}{a b:Nat}{c:β}{body:Nat->α->StateT Á8 Sem (ForInStep α)}{body':Nat->β->TM (ForInStep β)}(h:∀ x b,Sim prog w A E s κ it (x50 r) (body x (r b)) (body' x b)):Sim prog w A E s κ it r (forIn [a:b] (r c) body) (r90 body' (b - a) a c):=by
 rw[Std.Legacy.Range.forIn_eq_forIn_range',Z40];have e:[a:b].size=b - a:=by simp[Std.Legacy.Range.size]
 show Sim prog w A E s κ it r (forIn (Ã3 a [a:b].size 1) (r c) body) _;rw[e];exact Z30 h _ c
def m40(prog:ß)(w:ò)(A:ù)(E:Ã->Å->Prop)(s:Å)(κ:Ê0)(it:Array Keyed){α β:Type}(r:β->α)(m:StateT Á8 Sem α):Type:={f:TM β // Sim prog w A E s κ it r m f}
section
variable {α β α' β':Type}{r:β->α}{r':β'->α'}
def b30{a:α}(b:β)(e:a=r b):m40 prog w A E s κ it r (pure a):=⟨pure b,y10 b e⟩
def b00{m:StateT Á8 Sem α}{k:α->StateT Á8 Sem α'}(h:m40 prog w A E s κ it r m)(hk:∀ b,m40 prog w A E s κ it r' (k (r b))):m40 prog w A E s κ it r' (m >>= k):=⟨h.1 >>= λb=>(hk b).1,l00 h.2 λb=>(hk b).2⟩
def l10{c:Prop}[Decidable c]{m m':StateT Á8 Sem α}(h1:m40 prog w A E s κ it r m)(h2:m40 prog w A E s κ it r m'):m40 prog w A E s κ it r (if c then m else m'):=⟨if c then h1.1 else h2.1,P41 (λ_=>h1.2) λ_=>h2.2⟩
def p30{m:StateT Á8 Sem α}:m40 prog w A E s κ it r m:=⟨λ_=>none,λ_ _ _ e=>by cases e⟩
def B91{m m':StateT Á8 Sem α}(e:m=m')(h:m40 prog w A E s κ it r m'):m40 prog w A E s κ it r m:=⟨h.1,by rw[e];exact h.2⟩
def p40{a b:Nat}(c:β){body:Nat->α->StateT Á8 Sem (ForInStep α)}(h:∀ x b,m40 prog w A E s κ it (x50 r) (body x (r b))):m40 prog w A E s κ it r (forIn [a:b] (r c) body):=⟨r90 (λx b=>(h x b).1) (b - a) a c,H60 λx b=>(h x b).2⟩
end
def g21(O:Ora prog w A s κ it n cmp)(i j:Nat):m40 prog w A E s κ it (λo:Bool=>some o) (ltAt' i j):=⟨P21 n cmp i j,B71 O i j⟩
def t92(i j:Nat):m40 prog w A E s κ it (λu:Unit=>u) (reverseSlice' i j):=⟨D02 i j,P51 i j⟩
def u02(i j:Nat):m40 prog w A E s κ it (λu:Unit=>u) (moveDown' i j):=⟨P31 i j,B81 i j⟩
def C01(x:String):m40 prog w A E s κ it (λu:Unit=>u) (liftM (rule x):StateT Á8 Sem Unit):=⟨pure (),B61⟩
def H92(O:Ora prog w A s κ it n cmp)(lo n' ok:Nat):m40 prog w A E s κ it (λ_:Unit=>true) (binarySort' lo n' ok):=by
 refine B91 (binarySort'_eq lo n' ok) ?_;refine b00 (r:=λ_:Unit=>((none,()):Option Bool × Unit)) (p40 () λk _=>?_) λ_=>b30 () rfl;refine b00 (r:=λx:Nat × Nat=>((none,x):Option Bool × Nat × Nat)) (p40 (0,k) λ_ x=>?_) λx=>b00 (u02 _ _) λ_=>b30 (Þ ()) rfl;exact l10 (b30 (ç x) rfl) (b00 (g21 O _ _) λo=>l10 (b30 (Þ (x.1,_)) rfl) (b30 (Þ (_,x.2)) rfl))
def e22(O:Ora prog w A s κ it n cmp)(lo z:Nat):m40 prog w A E s κ it (λm:Nat=>some m) (countRun' lo z):=by
 refine B91 (countRun'_eq lo z) ?_;refine b00 (r:=λm:Nat=>((none,m):Option (Option Nat) × Nat)) (p40 1 λ_ m=>b00 (g21 O _ _) λ_=>l10 (b30 (ç m) rfl) (b30 (Þ (m + 1)) rfl)) λm=>?_;refine l10 (b30 m rfl) (l10 (b00 (g21 O _ _) λ_=>l10 (b30 m rfl) (b00 (t92 _ _) λ_=>?_)) ?_)
 all_goals
  refine b00 (C01 _) λ_=>b00 (r:=λm:Nat=>((none,m,0):Option (Option Nat) × Nat × Nat)) (p40 (m + 1) λ_ m=>b00 (g21 O _ _) λ_=>l10 (l10 p30 (b30 (Þ (m + 1)) rfl)) (b00 (g21 O _ _) λ_=>l10 (b30 (ç m) rfl) p30)) λm=>?_;exact l10 p30 (b00 (t92 _ _) λ_=>b00 (r:=λm:Nat=>((none,m):Option (Option Nat) × Nat)) (p40 m λ_ m=>b00 (g21 O _ _) λ_=>l10 (b30 (ç m) rfl) (b30 (Þ (m + 1)) rfl)) λm=>b30 m rfl)
def tLt(O:Ora prog w A s κ it n cmp)(x y:Nat):m40 prog w A E s κ it (λo:Bool=>some o) (lt' (ô it x) (ô it y)):=⟨ltT n cmp x y,J81 O x y⟩
def q40(p:Array Nat)(i:Nat):m40 prog w A E s κ it (ô it) (elem' (p.map (ô it)) i):=⟨n71 p i,H50 p i⟩
def n81:Bool->Keyed->Array Keyed->Nat->Nat->Nat->StateT SortSt Sem (Option Nat):=sortPriv% PySem.Builtin.gallop
def T20(O:Ora prog w A s κ it n cmp)(left:Bool)(y:Nat)(p:Array Nat)(base z hint:Nat):m40 prog w A E s κ it (λm:Nat=>some m) (n81 left (ô it y) (p.map (ô it)) base z hint):=by
 refine b00 (r:=λb:Bool=>some b) (b00 (q40 p (base + hint)) λx=>l10 (tLt O x y) (b00 (tLt O y x) λb=>b30 (!b) rfl)) λb=>?_;refine l10 ?_ ?_ <;> refine b00 (r:=λx:Nat × Nat=>((none,x):Option (Option Nat) × Nat × Nat)) (p40 (0,1) λ_ x=>l10 (b30 (ç x) rfl) (b00 (r:=λb:Bool=>some b) (b00 (q40 p _) λx=>l10 (tLt O x y) (b00 (tLt O y x) λb=>b30 (!b) rfl)) λb=>l10 (b30 (ç x) rfl) (b30 (Þ (x.2,2 * x.2 + 1)) rfl))) λx=>?_
 ·exact b00 (r:=λx:Nat × Nat=>((none,x):Option (Option Nat) × Nat × Nat)) (p40 (hint + x.1 + 1,hint + min x.2 (z - hint)) λ_ x=>l10 (b30 (ç x) rfl) (b00 (r:=λb:Bool=>some b) (b00 (q40 p _) λx=>l10 (tLt O x y) (b00 (tLt O y x) λb=>b30 (!b) rfl)) λb=>l10 (b30 (Þ (_,x.2)) rfl) (b30 (Þ (x.1,_)) rfl))) λx=>b30 x.2 rfl
 ·exact b00 (r:=λx:Nat × Nat=>((none,x):Option (Option Nat) × Nat × Nat)) (p40 (hint + 1 - min x.2 (hint + 1),hint - x.1) λ_ x=>l10 (b30 (ç x) rfl) (b00 (r:=λb:Bool=>some b) (b00 (q40 p _) λx=>l10 (tLt O x y) (b00 (tLt O y x) λb=>b30 (!b) rfl)) λb=>l10 (b30 (Þ (_,x.2)) rfl) (b30 (Þ (x.1,_)) rfl))) λx=>b30 x.2 rfl
def T30{α β:Type}{r:β->α}{a b:Nat}{i:α}(b':Nat)(eb:b=b')(c:β)(ec:i=r c){body:Nat->α->StateT Á8 Sem (ForInStep α)}(h:∀ x b,m40 prog w A E s κ it (x50 r) (body x (r b))):m40 prog w A E s κ it r (forIn [a:b] i body):=⟨r90 (λx b=>(h x b).1) (b' - a) a c,by subst eb;subst ec;exact H60 λx b=>(h x b).2⟩
def tIf{α β:Type}{r:β->α}{c:Prop}[Decidable c]{m m':StateT Á8 Sem α}(c':Bool)(e:c↔c'=true)(h1:m40 prog w A E s κ it r m)(h2:m40 prog w A E s κ it r m'):m40 prog w A E s κ it r (if c then m else m'):=⟨match c' with
 |true=>h1.1
 |false=>h2.1,by
 cases c' with
 |true=>rw[if_pos (e.mpr rfl)];exact h1.2
 |false=>rw[if_neg λh=>by cases e.mp h];exact h2.2⟩
def P61:m40 prog w A E s κ it (co κ it) (get:StateT Á8 Sem Á8):=⟨get,T10⟩
def u12:Nat->StateT SortSt Sem Unit:=sortPriv% PySem.Builtin.setMinGallop
def e32(g:Nat):m40 prog w A E s κ it (λu:Unit=>u) (u12 g):=⟨modify λt=>{ t with minGallop:=g },o30 λ_=>rfl⟩
def D12(O:Ora prog w A s κ it n cmp)(left:Bool)(y:Nat)(p:Array Nat)(base z z' hint:Nat)(e:z=z'):m40 prog w A E s κ it (λm:Nat=>some m) (n81 left (ô it y) (p.map (ô it)) base z hint):=B91 (by rw[e]) (T20 O left y p base z' hint)
def C11:Array Keyed->Array Keyed->StateT SortSt Sem (Array Keyed):=sortPriv% PySem.Builtin.mergeLo
def rs{γ:Type}(it:Array Keyed)(x:Option (Array Nat) × Array Nat × γ):Option (Array Keyed) × Array Keyed × γ:=(x.1.map (Array.map (ô it)),x.2.1.map (ô it),x.2.2)
theorem sz(it:Array Keyed)(i:Nat)(p:Array Nat):(i == (p.map (ô it)).size)=true↔(i == p.size)=true:=by rw[size_map]
local macro_rules
 | `(tactic| ac_rfl)=>`(tactic| simp only[rs,x50,map_some,Option.map_none,Ø8,Array.map_push,Ð5,size_map])| `(tactic| rwa [$O:term,$p:term,$q:term,$out:term,$ia:term,$ib:term,$mg:term,$ac:term,$bc:term])=>`(tactic| exact b00 (q40 $p $ia) λy=>tIf _ (sz _ _ _) (b30 (ç (some (push $out y++Å6 $q $ib++Å6 $p ($ia + 1)),push $out y,$ia + 1,$ib,$mg,$ac,$bc)) (by ac_rfl)) (l10 (b30 (ç (none,push $out y,$ia + 1,$ib,$mg,$ac,$bc)) (by ac_rfl)) (b30 (Þ (none,push $out y,$ia + 1,$ib,$mg,$ac,$bc)) (by ac_rfl))))| `(tactic| rwa [$O:term,$p:term,$q:term,$out:term,$ia:term,$ib:term,$mg:term,$ac:term,$bc:term,$_x0:term])=>`(tactic| exact b00 (q40 $q $ib) λy=>tIf _ (sz _ _ _) (b30 (ç (some (push $out y++Å6 $p $ia++Å6 $q ($ib + 1)),push $out y,$ia,$ib + 1,$mg,$ac,$bc)) (by ac_rfl)) (b00 (q40 $p $ia) λz=>b00 (D12 $O true z $q ($ib + 1) _ (Õ7 $q - ($ib + 1)) 0 (by simp[rs])) λk=>l10 (tIf _ (sz _ _ _) (b30 (ç (some (push $out y++Å6 $q ($ib + 1) ($ib + 1 + k)++Å6 $p $ia++Å6 $q ($ib + 1 + k)),push $out y++Å6 $q ($ib + 1) ($ib + 1 + k),$ia,$ib + 1 + k,$mg,$ac,k)) (by ac_rfl)) ((by rwa [$O:term,$p:term,$q:term,(push $out y++Å6 $q ($ib + 1) ($ib + 1 + k)),$ia:term,($ib + 1 + k),$mg:term,$ac:term,k]))) ((by rwa [$O:term,$p:term,$q:term,(push $out y),$ia:term,($ib + 1),$mg:term,$ac:term,k]))))| `(tactic| rwa [$O:term,$p:term,$q:term,$out:term,$ia:term,$ib:term,$mg:term,$bc:term,$_x0:term,$_x1:term,$_x2:term])=>`(tactic| exact b00 (e32 $mg) λ_=>b00 (q40 $q $ib) λy=>b00 (D12 $O false y $p $ia _ (Õ7 $p - $ia) 0 (by simp[rs])) λk=>l10 (tIf _ (sz _ _ _) (b30 (ç (some ($out++Å6 $p $ia ($ia + k)++Å6 $q $ib++Å6 $p ($ia + k)),$out++Å6 $p $ia ($ia + k),$ia + k,$ib,$mg,k,$bc)) (by ac_rfl)) (tIf _ (sz _ _ _) (b30 (ç (some ($out++Å6 $p $ia ($ia + k)++Å6 $p ($ia + k)++Å6 $q $ib),$out++Å6 $p $ia ($ia + k),$ia + k,$ib,$mg,k,$bc)) (by ac_rfl)) ((by rwa [$O:term,$p:term,$q:term,($out++Å6 $p $ia ($ia + k)),($ia + k),$ib:term,$mg:term,k,$bc:term,rfl])))) ((by rwa [$O:term,$p:term,$q:term,$out:term,$ia:term,$ib:term,$mg:term,k,$bc:term,rfl])))
def C21(O:Ora prog w A s κ it n cmp)(p q:Array Nat):m40 prog w A E s κ it (Array.map (ô it)) (C11 (p.map (ô it)) (q.map (ô it))):=by
 refine b00 (C01 _) λ_=>b00 (q40 q 0) λx=>?_;refine tIf _ (sz it _ _) (b30 (#[x]++p.extract 0++q.extract 1) (by simp only[Ø8,Ð5,size_map,List.map_toArray,Ç0,map_nil])) ?_
 refine tIf _ (sz it _ _) (b30 (#[x]++q.extract 1++p.extract 0) (by simp only[Ø8,Ð5,size_map,List.map_toArray,Ç0,map_nil])) ?_
 refine b00 P61 λt=>?_;refine b00 (r:=rs it) (T30 (p.size + q.size) (by simp) (none,#[x],0,1,t.minGallop) (by simp[rs];rfl) λ_ st=>?_) λst=>?_
 ·obtain⟨_,out,ia,ib,mg⟩:=st;refine b00 (r:=rs it) (T30 (p.size + q.size) (by simp) (none,out,ia,ib,0,0) (by simp[rs]) λ_ st=>?_) λst=>?_
  ·obtain⟨_,out,ia,ib,ac,bc⟩:=st;refine b00 (q40 q ib) λy=>b00 (q40 p ia) λz=>b00 (tLt O y z) λo=>l10 (b00 (q40 q ib) λy=>?_) (b00 (q40 p ia) λy=>?_)
   ·exact tIf _ (sz it _ _) (b30 (ç (some (out.push y++p.extract ia++q.extract (ib + 1)),out.push y,ia,ib + 1,0,bc + 1)) (by simp[rs,x50])) (l10 (b30 (ç (none,out.push y,ia,ib + 1,0,bc + 1)) (by simp[rs,x50])) (b30 (Þ (none,out.push y,ia,ib + 1,0,bc + 1)) (by simp[rs,x50])))
   ·exact tIf _ (sz it _ _) (b30 (ç (some (out.push y++q.extract ib++p.extract (ia + 1)),out.push y,ia + 1,ib,ac + 1,0)) (by simp[rs,x50])) (l10 (b30 (ç (none,out.push y,ia + 1,ib,ac + 1,0)) (by simp[rs,x50])) (b30 (Þ (none,out.push y,ia + 1,ib,ac + 1,0)) (by simp[rs,x50])))
  ·obtain⟨o,out,ia,ib,ac,bc⟩:=st;cases o with
   |some v=>exact b30 (ç (some v,out,ia,ib,mg)) rfl
   |none =>
    refine b00 (C01 _) λ_=>?_;refine b00 (r:=rs it) (T30 (p.size + q.size) (by simp) (none,out,ia,ib,mg + 1,ac,bc) (by simp[rs]) λ_ st=>?_) λst=>?_
    ·obtain⟨_,out,ia,ib,mg,ac,bc⟩:=st;exact l10 ((by rwa [O,p,q,out,ia,ib,(mg - 1),bc,rfl,rfl,rfl])) ((by rwa [O,p,q,out,ia,ib,mg,bc,rfl,rfl,rfl]))
    ·obtain⟨o,out,ia,ib,mg,ac,bc⟩:=st;cases o with
     |some v=>exact b30 (ç (some v,out,ia,ib,mg)) rfl|none=>exact b00 (e32 (mg + 1)) λ_=>b30 (Þ (none,out,ia,ib,mg + 1)) rfl
 ·obtain⟨o,_⟩:=st;cases o with
  |none=>exact p30|some v=>exact b30 v rfl
def I02(t':Tw){S:Á8}(e:S=co κ it t'):m40 prog w A E s κ it (λu:PUnit=>u) (set S:StateT Á8 Sem PUnit):=⟨modify λ_=>t',by subst e;exact o30 (F:=λ_=>co κ it t') λ_=>rfl⟩
def u22{F:Á8->Á8}(G:Tw->Tw)(h:∀ t,F (co κ it t)=co κ it (G t)):m40 prog w A E s κ it (λu:Unit=>u) (modify F:StateT Á8 Sem Unit):=⟨modify G,o30 h⟩
theorem fold_map(f:Nat->Keyed)(d:Nat):∀ (l:List Nat) (j:Nat) (a:Array Nat),((l.map f).zipIdx j).foldl (λa x=>setIfInBounds a (d + x.2) x.1) (a.map f)=((l.zipIdx j).foldl (λa x=>setIfInBounds a (d + x.2) x.1) a).map f
 |[],_,_=>rfl
 |x::l,j,a=>by
  have e:(a.map f).setIfInBounds (d + j) (f x)=(a.setIfInBounds (d + j) x).map f:=by simp
  show((l.map f).zipIdx (j + 1)).foldl _ ((a.map f).setIfInBounds (d + j) (f x))=_;rw[e];exact fold_map f d l (j + 1) _
def spl(a:Array Nat)(d:Nat)(l:List Nat):Array Nat:=⟨a.toList.take d++(l++a.toList.drop (d + l.length))⟩
theorem J91(d:Nat):∀ (l:List Nat) (j:Nat) (a:Array Nat),d + j + l.length<=a.size->(l.zipIdx j).foldl (λa x=>setIfInBounds a (d + x.2) x.1) a=spl a (d + j) l
 |[],j,a,_=>by
  show a=_;unfold spl;rw[Ã9,Nat.add_zero,Ï0,List.take_append_drop]
 |x::l,j,a,h=>by
  have hl:d + j + (l.length + 1)<=a.toList.length:=h;show(l.zipIdx (j + 1)).foldl _ (a.setIfInBounds (d + j) x)=_;rw[J91 d l (j + 1) _ (by rw[Array.size_setIfInBounds];have:a.toList.length=a.size:=rfl;omega)]
  unfold spl;rw[Array.toList_setIfInBounds,List.set_eq_take_append_cons_drop,if_pos ∅]
  generalize a.toList=m at hl;have e1:(m.take (d + j)).length=d + j:=by rw[Ä5];omega
  have e2:(m.take (d + j)++x::m.drop (d + j + 1)).take (d + (j + 1))=m.take (d + j)++[x]:=by
   rw[List.take_append,e1,show d + (j + 1) - (d + j)=1 by omega,Ê3 (Ò (Ø6 e1) ∅)]
   rfl
  have e3:(m.take (d + j)++x::m.drop (d + j + 1)).drop (d + (j + 1) + l.length)=m.drop (d + j + (l.length + 1)):=by
   rw[List.drop_append,e1,show d + (j + 1) + l.length - (d + j)=l.length + 1 by omega,List.drop_eq_nil_of_le (Ò (Ø6 e1) ∅),List.drop_succ_cons,List.drop_drop,Ï0,show d + j + 1 + l.length=d + j + (l.length + 1) by omega]
  rw[e2,e3,Æ7];rfl
def u32{F:Á8->Á8}(c:Tw->Bool)(G:Tw->Tw)(h:∀ t,c t=true->F (co κ it t)=co κ it (G t)):m40 prog w A E s κ it (λu:Unit=>u) (modify F:StateT Á8 Sem Unit):=⟨λt=>match c t with
 |true=>some ((),G t)
 |false=>none,λt b t' e Q q=>by
 dsimp only at e;cases hc:c t with
 |false=>rw[hc] at e;cases e
 |true =>
  rw[hc] at e;cases e;refine kasC_modify ?_;rw[h t hc];exact q⟩
def Z50(O:Ora prog w A s κ it n cmp)(i:Nat):m40 prog w A E s κ it (λ_:Unit=>true) (mergeAt' i):=by
 refine b00 P61 λt=>?_;generalize (Ö7 (co κ it t))[i]?=o1;generalize (Ö7 (co κ it t))[i + 1]?=o2;rcases o1 with _ | ⟨sa,na,pw⟩
 ·exact p30
 rcases o2 with _ | ⟨sb,nb,_⟩
 ·exact p30
 refine b00 (I02 { t with pending:=(t.pending.setIfInBounds i (sa,na + nb,pw)).eraseIdxIfInBounds (i + 1) } rfl) λ_=>?_;refine b00 (q40 t.a sb) λy=>b00 (T20 O false y t.a sa na 0) λk=>?_;refine l10 (b30 () rfl) (b00 (q40 t.a _) λy=>b00 (T20 O true y t.a sb nb (nb - 1)) λnb=>l10 (b30 () rfl) (l10 (b00 (B91 ?_ (C21 O (t.a.extract (sa + k) sb) (t.a.extract sb (sb + nb)))) λv=>?_) p30))
 ·rw[Ð5,Ð5];rfl
 ·refine b00 (u32 (λu=>ble (sa + k + v.toList.length) u.a.size) (λu=>{ u with a:=spl u.a (sa + k) v.toList }) λu hu=>?_) λ_=>b00 P61 λ_=>b30 () rfl;have e:=fold_map (ô it) (sa + k) v.toList 0 u.a;rw[← Array.toList_map,J91 (sa + k) v.toList 0 u.a (Nat.le_of_ble_eq_true hu)] at e;exact congrArg (λa=>Ë0 κ a u.pending u.minGallop none) e
structure D22(prog:Program)(w:World)(A:Around)(E:Value->Shared->Prop)(s:Shared)(κ:SortKind)(it:Array Keyed)(z:Nat)(m:StateT SortSt Sem Unit) where
 body:Nat->Nat->TM (ForInStep Nat)
 tail:Nat->TM Unit
 sim:Sim prog w A E s κ it (λu:Unit=>u) m (r90 body z 0 0 >>= tail)
def mkH{α:Type}{r:Nat->α}{i:α}{z:Nat}(e0:i=r 0){B:Nat->α->StateT Á8 Sem (ForInStep α)}{k:α->StateT Á8 Sem Unit}(hb:∀ x lo,m40 prog w A E s κ it (x50 r) (B x (r lo)))(hk:∀ lo,m40 prog w A E s κ it (λu:Unit=>u) (k (r lo))) :
  D22 prog w A E s κ it z (forIn [0:z] i B >>= k) where
 body:=λx lo=>(hb x lo).1
 tail:=λlo=>(hk lo).1
 sim:=by
  subst e0;exact l00 (H60 λx b=>(hb x b).2) λb=>(hk b).2
structure g31(prog:Program)(w:World)(A:Around)(E:Value->Shared->Prop)(s:Shared)(κ:SortKind)(it:Array Keyed)(m:StateT SortSt Sem Unit) where
 body:Tw->Nat->Nat->TM (ForInStep Nat)
 tail:Tw->Nat->TM Unit
 sim:Sim prog w A E s κ it (λu:Unit=>u) m (get >>= λt=>r90 (body t) t.a.size 0 0 >>= tail t)
def mkW{F:Á8->StateT Á8 Sem Unit}(h:∀ t:Tw,D22 prog w A E s κ it t.a.size (F (co κ it t))):g31 prog w A E s κ it (get >>= F) where
 body:=λt=>(h t).body
 tail:=λt=>(h t).tail
 sim:=l00 T10 λt=>(h t).sim
def g31.cast{m m':StateT Á8 Sem Unit}(e:m=m')(h:g31 prog w A E s κ it m'):g31 prog w A E s κ it m:=⟨h.body,h.tail,by rw[e];exact h.sim⟩
def i50(O:Ora prog w A s κ it n cmp):g31 prog w A E s κ it sortRuns':=by
 refine g31.cast sortRuns'_eq (mkW λt=>?_);generalize hz:Õ7 (arrOf (co κ it t))=z;have hz':t.a.size=z:=Array.size_map.symm.trans hz;clear hz;subst hz';refine mkH (r:=λm:Nat=>((none,m):Option Unit × Nat)) rfl (λ_ lo=>l10 (b30 (ç lo) rfl) (b00 (e22 O _ _) λm=>?_)) (λ_=>?_)
 ·refine l10 (b00 (C01 _) λ_=>b00 (H92 O _ _ _) λ_=>l10 p30 (b00 P61 λu=>?_)) (b00 P61 λu=>?_)
  all_goals
   generalize Array.back? (Ö7 (co κ it u))=o1;rcases o1 with _ | ⟨s1,n1,_⟩
   ·exact b00 (u22 (λu=>{ u with pending:=u.pending.push (lo,_,0) }) λ_=>rfl) λ_=>b30 (Þ (lo + _)) rfl
   ·refine b00 (r:=λ_:Unit=>((none,()):Option Unit × Unit)) (p40 () λ_ _=>b00 P61 λu=>?_) λ_=>b00 (u22 (λu=>{ u with pending:=u.pending.modify (u.pending.size - 1) λx=>(x.1,x.2.1,_) }) λ_=>rfl) λ_=>b00 (u22 (λu=>{ u with pending:=u.pending.push (lo,_,0) }) λ_=>rfl) λ_=>b30 (Þ (lo + _)) rfl;dsimp only;generalize (if Õ7 (Ö7 (co κ it u)) > 1 then(Ö7 (co κ it u))[Õ7 (Ö7 (co κ it u)) - 2]? else none)=o2;rcases o2 with _ | ⟨_,_,old⟩
    ·exact b30 (ç ()) rfl
    ·exact l10 (b30 (ç ()) rfl) (b00 (Z50 O _) λ_=>l10 p30 (b30 (Þ ()) rfl))
 ·exact b00 (r:=λ_:Unit=>((none,()):Option Unit × Unit)) (p40 () λ_ _=>b00 P61 λu=>l10 (b30 (ç ()) rfl) (b00 (Z50 O _) λ_=>l10 p30 (b30 (Þ ()) rfl))) λ_=>b30 () rfl
end
def upN:Nat->Nat->Nat->List Nat
 |0,_,h=>[h]|b + 1,v,h=>upN b (2 * v) (h + v)++upN b (2 * v) h
def neN:Nat->Nat->Nat->List Nat
 |0,_,_=>[]|b + 1,v,h=>(h + v)::(neN b (2 * v) (h + v)++neN b (2 * v) h)
def sN(b:Nat):List Nat:=0::neN b 1 0
def i60:Nat->Nat->Nat->List Nat
 |0,_,_=>[]|k + 1,i,m=>if Nat.testBit m 0 then i::i60 k (i + 1) (m / 2) else i60 k (i + 1) (m / 2)
def n91:List Nat->List Nat->Bool
 |[],[]=>false|[],_::_=>true|_::_,[]=>false|a::r,b::q=>if beq a b then n91 r q else Ô7 a b
def u20(K i j:Nat):Bool:=n91 (i60 K 0 i) (i60 K 0 j)
section
variable {prog:ß}{w:ò}{A:ù}{E:Ã->Å->Prop}{s:Å}{κ:Ê0}{it:Array Keyed}
def T0(K:Nat):Tw:=⟨⟨Ú (2 ^ K)⟩,#[],7⟩
def TZ(K p:Nat):Tw:=⟨⟨sN K⟩,#[(0,2 ^ K,p)],7⟩
theorem f10{β:Type}{f:Nat->β->TM (ForInStep β)}{n i:Nat}{b b':β}{t t':Tw}{r:Option (β × Tw)}(h:f i b t=some (.yield b',t'))(h2:r90 f n (i + 1) b' t'=r):r90 f (n + 1) i b t=r:=by
 show Option.bind (f i b t) _=r;rw[h];exact h2
def goW{K:Nat}(O:Ora prog w A s κ it (2 ^ K) (u20 K)):TM Unit:=get >>= λt=>r90 ((i50 (E:=E) O).body t) t.a.size 0 0 >>= (i50 (E:=E) O).tail t
theorem two{K n:Nat}{t:Tw}{r:Option (Unit × Tw)}(O:Ora prog w A s κ it (2 ^ K) (u20 K))(h:r90 ((i50 (E:=E) O).body (T0 K)) (2 ^ K) 0 0 (T0 K)=some (n,t))(h2:(i50 (E:=E) O).tail (T0 K) n t=r):goW (E:=E) O (T0 K)=r:=by
 show Option.bind (r90 ((i50 (E:=E) O).body (T0 K)) (Ú (2 ^ K)).length 0 0 (T0 K)) _=r;rw[ø,h];exact h2
theorem w1(O:Ora prog w A s κ it (2 ^ 1) (u20 1)):goW (E:=E) O (T0 1)=some ((),TZ 1 0):=by kernel_rfl
theorem w2(O:Ora prog w A s κ it (2 ^ 2) (u20 2)):goW (E:=E) O (T0 2)=some ((),TZ 2 0):=by kernel_rfl
theorem w3(O:Ora prog w A s κ it (2 ^ 3) (u20 3)):goW (E:=E) O (T0 3)=some ((),TZ 3 0):=by kernel_rfl
theorem w4(O:Ora prog w A s κ it (2 ^ 4) (u20 4)):goW (E:=E) O (T0 4)=some ((),TZ 4 0):=by kernel_rfl
theorem w5(O:Ora prog w A s κ it (2 ^ 5) (u20 5)):goW (E:=E) O (T0 5)=some ((),TZ 5 0):=by kernel_rfl
theorem w6(O:Ora prog w A s κ it (2 ^ 6) (u20 6)):goW (E:=E) O (T0 6)=some ((),TZ 6 1):=by kernel_rfl
theorem I12(O:Ora prog w A s κ it (2 ^ 7) (u20 7)):(i50 (E:=E) O).body (T0 7) 0 0 (T0 7)=some (.yield 32,⟨⟨sN 5++Ã3 32 96⟩,#[(0,32,0)],7⟩):=by kernel_rfl
theorem I22(O:Ora prog w A s κ it (2 ^ 7) (u20 7)):(i50 (E:=E) O).body (T0 7) 1 32 ⟨⟨sN 5++Ã3 32 96⟩,#[(0,32,0)],7⟩=some (.yield 64,⟨⟨sN 5++(upN 5 1 32++Ã3 64 64)⟩,#[(0,32,2),(32,32,0)],7⟩):=by kernel_rfl
theorem I32(O:Ora prog w A s κ it (2 ^ 7) (u20 7)):(i50 (E:=E) O).body (T0 7) 2 64 ⟨⟨sN 5++(upN 5 1 32++Ã3 64 64)⟩,#[(0,32,2),(32,32,0)],7⟩=some (.yield 96,⟨⟨sN 6++(upN 5 1 64++Ã3 96 32)⟩,#[(0,64,1),(64,32,0)],7⟩):=by kernel_rfl
theorem I42(O:Ora prog w A s κ it (2 ^ 7) (u20 7)):(i50 (E:=E) O).body (T0 7) 3 96 ⟨⟨sN 6++(upN 5 1 64++Ã3 96 32)⟩,#[(0,64,1),(64,32,0)],7⟩=some (.yield 128,⟨⟨sN 6++(upN 5 1 64++upN 5 1 96)⟩,#[(0,64,1),(64,32,2),(96,32,0)],7⟩):=by kernel_rfl
theorem I52(O:Ora prog w A s κ it (2 ^ 7) (u20 7)):r90 ((i50 (E:=E) O).body (T0 7)) 124 4 128 ⟨⟨sN 6++(upN 5 1 64++upN 5 1 96)⟩,#[(0,64,1),(64,32,2),(96,32,0)],7⟩=some (128,⟨⟨sN 6++(upN 5 1 64++upN 5 1 96)⟩,#[(0,64,1),(64,32,2),(96,32,0)],7⟩):=by kernel_rfl
theorem I62(O:Ora prog w A s κ it (2 ^ 7) (u20 7)):(i50 (E:=E) O).tail (T0 7) 128 ⟨⟨sN 6++(upN 5 1 64++upN 5 1 96)⟩,#[(0,64,1),(64,32,2),(96,32,0)],7⟩=some ((),TZ 7 1):=by kernel_rfl
theorem w7(O:Ora prog w A s κ it (2 ^ 7) (u20 7)):goW (E:=E) O (T0 7)=some ((),TZ 7 1):=two O (f10 (I12 O) (f10 (I22 O) (f10 (I32 O) (f10 (I42 O) (I52 O))))) (I62 O)
theorem I72(O:Ora prog w A s κ it (2 ^ 8) (u20 8)):(i50 (E:=E) O).body (T0 8) 0 0 (T0 8)=some (.yield 32,⟨⟨sN 5++Ã3 32 224⟩,#[(0,32,0)],7⟩):=by kernel_rfl
theorem I82(O:Ora prog w A s κ it (2 ^ 8) (u20 8)):(i50 (E:=E) O).body (T0 8) 1 32 ⟨⟨sN 5++Ã3 32 224⟩,#[(0,32,0)],7⟩=some (.yield 64,⟨⟨sN 5++(upN 5 1 32++Ã3 64 192)⟩,#[(0,32,3),(32,32,0)],7⟩):=by kernel_rfl
theorem I92(O:Ora prog w A s κ it (2 ^ 8) (u20 8)):(i50 (E:=E) O).body (T0 8) 2 64 ⟨⟨sN 5++(upN 5 1 32++Ã3 64 192)⟩,#[(0,32,3),(32,32,0)],7⟩=some (.yield 96,⟨⟨sN 6++(upN 5 1 64++Ã3 96 160)⟩,#[(0,64,2),(64,32,0)],7⟩):=by kernel_rfl
theorem J02(O:Ora prog w A s κ it (2 ^ 8) (u20 8)):(i50 (E:=E) O).body (T0 8) 3 96 ⟨⟨sN 6++(upN 5 1 64++Ã3 96 160)⟩,#[(0,64,2),(64,32,0)],7⟩=some (.yield 128,⟨⟨sN 6++(upN 5 1 64++(upN 5 1 96++Ã3 128 128))⟩,#[(0,64,2),(64,32,3),(96,32,0)],7⟩):=by kernel_rfl
theorem J12(O:Ora prog w A s κ it (2 ^ 8) (u20 8)):(i50 (E:=E) O).body (T0 8) 4 128 ⟨⟨sN 6++(upN 5 1 64++(upN 5 1 96++Ã3 128 128))⟩,#[(0,64,2),(64,32,3),(96,32,0)],7⟩=some (.yield 160,⟨⟨sN 7++(upN 5 1 128++Ã3 160 96)⟩,#[(0,128,1),(128,32,0)],7⟩):=by kernel_rfl
theorem J22(O:Ora prog w A s κ it (2 ^ 8) (u20 8)):(i50 (E:=E) O).body (T0 8) 5 160 ⟨⟨sN 7++(upN 5 1 128++Ã3 160 96)⟩,#[(0,128,1),(128,32,0)],7⟩=some (.yield 192,⟨⟨sN 7++(upN 5 1 128++(upN 5 1 160++Ã3 192 64))⟩,#[(0,128,1),(128,32,3),(160,32,0)],7⟩):=by kernel_rfl
theorem J32(O:Ora prog w A s κ it (2 ^ 8) (u20 8)):(i50 (E:=E) O).body (T0 8) 6 192 ⟨⟨sN 7++(upN 5 1 128++(upN 5 1 160++Ã3 192 64))⟩,#[(0,128,1),(128,32,3),(160,32,0)],7⟩=some (.yield 224,⟨⟨sN 7++(upN 6 1 128++(upN 5 1 192++Ã3 224 32))⟩,#[(0,128,1),(128,64,2),(192,32,0)],7⟩):=by kernel_rfl
theorem J42(O:Ora prog w A s κ it (2 ^ 8) (u20 8)):(i50 (E:=E) O).body (T0 8) 7 224 ⟨⟨sN 7++(upN 6 1 128++(upN 5 1 192++Ã3 224 32))⟩,#[(0,128,1),(128,64,2),(192,32,0)],7⟩=some (.yield 256,⟨⟨sN 7++(upN 6 1 128++(upN 5 1 192++upN 5 1 224))⟩,#[(0,128,1),(128,64,2),(192,32,3),(224,32,0)],7⟩):=by kernel_rfl
theorem J52(O:Ora prog w A s κ it (2 ^ 8) (u20 8)):r90 ((i50 (E:=E) O).body (T0 8)) 248 8 256 ⟨⟨sN 7++(upN 6 1 128++(upN 5 1 192++upN 5 1 224))⟩,#[(0,128,1),(128,64,2),(192,32,3),(224,32,0)],7⟩=some (256,⟨⟨sN 7++(upN 6 1 128++(upN 5 1 192++upN 5 1 224))⟩,#[(0,128,1),(128,64,2),(192,32,3),(224,32,0)],7⟩):=by kernel_rfl
theorem J62(O:Ora prog w A s κ it (2 ^ 8) (u20 8)):(i50 (E:=E) O).tail (T0 8) 256 ⟨⟨sN 7++(upN 6 1 128++(upN 5 1 192++upN 5 1 224))⟩,#[(0,128,1),(128,64,2),(192,32,3),(224,32,0)],7⟩=some ((),TZ 8 1):=by kernel_rfl
theorem w8(O:Ora prog w A s κ it (2 ^ 8) (u20 8)):goW (E:=E) O (T0 8)=some ((),TZ 8 1):=two O (f10 (I72 O) (f10 (I82 O) (f10 (I92 O) (f10 (J02 O) (f10 (J12 O) (f10 (J22 O) (f10 (J32 O) (f10 (J42 O) (J52 O))))))))) (J62 O)
theorem D70{K:Nat}(h1:1<=K)(h8:K<=8)(O:Ora prog w A s κ it (2 ^ K) (u20 K)):∃ p,goW (E:=E) O (T0 K)=some ((),TZ K p):=by
 match K,h1,h8,O with
 |1,_,_,O=>exact⟨_,w1 O⟩|2,_,_,O=>exact⟨_,w2 O⟩|3,_,_,O=>exact⟨_,w3 O⟩|4,_,_,O=>exact⟨_,w4 O⟩|5,_,_,O=>exact⟨_,w5 O⟩|6,_,_,O=>exact⟨_,w6 O⟩|7,_,_,O=>exact⟨_,w7 O⟩|8,_,_,O=>exact⟨_,w8 O⟩
theorem runL{K:Nat}{vs:List Ã}(h1:1<=K)(h8:K<=8)(hv:vs.length=2 ^ K)(O:Ora prog w A s κ (vs.toArray.zip vs.toArray) (2 ^ K) (u20 K)):MySort.t82 prog w A s vs (λp=>p=sN K) κ:=by
 refine⟨sN K,rfl,λE Q q=>?_⟩;obtain⟨pp,e⟩:=D70 (E:=E) h1 h8 O;have r:=(i50 (E:=E) O).sim (T0 K) () (TZ K pp) e (λu st s'=>s'=s/\failedOf st=none/\arrOf st=((sN K).toArray).map (ô (vs.toArray.zip vs.toArray))) ⟨rfl,rfl,rfl⟩;have est:Ë0 κ (vs.toArray.zip vs.toArray) #[] 7 none=co κ (vs.toArray.zip vs.toArray) (T0 K):=by
  have e:=kas_range (vs.toArray.zip vs.toArray);rw[show(vs.toArray.zip vs.toArray).size=2 ^ K by simp[hv]] at e
  show _=Ë0 κ ((toArray (Ú (2 ^ K))).map (ô (vs.toArray.zip vs.toArray))) #[] 7 none;rw[e]
 rw[est];refine Â5 r (λx s' h=>?_) λ_ _ e=>e;obtain⟨rfl,h2,h3⟩:=h;exact q x.2 h2 h3
end
end TS
namespace HT
open PySem PyProof.Rows
section
open PySem.SeqAt
open PySem.AutoSeq1 (wpAny_loadPart')
open PySem.MeetsSeq PySem.MeetsSeq2 PySem.MeetsSeq3
open MySort (f80)
def leB(ns ms:List Int):Bool:=!f80 ms ns
theorem C31(x y:Int)(r q:List Int):leB (x::r) (y::q)=if x=y then leB r q else decide (x<=y):=by
 show(!(if y=x then f80 q r else decide (y < x)))=_;by_cases e:x=y
 ·rw[if_pos e,if_pos e.symm];rfl
 ·rw[if_neg e,if_neg (Á0 e)];by_cases l:y < x
  ·rw[decide_eq_true l,decide_eq_false ∅];rfl
  ·rw[decide_eq_false l,decide_eq_true ∅];rfl
theorem C41(A:ù)(s:Å)(a:Int)(t:Tok)(c:Int)(u:Tok)(P:ß)(w:ò)(E:Ã->Å->Prop)(Q:Ã->Å->Prop)(h:Q (.bool (decide (a<=c))) s):Ó (Ü P w) A (richCompare .LtE (.int a t) (.int c u)) Q E s :=
 (PyProof.Rows.le_int h:Ó (Ü P w) A (ÿ .LtE (.int a t) (.int c u)) Q E s)
theorem H70(l b:Æ)(i1 i2:Array Ã)(n n2:Nat)(dd dd2:Option Æ)(sl sl2:Array (Option Ã))(ns ms:List Int)(hi:Ê4 i1.toList ns)(hj:Ê4 i2.toList ms) :
  Meets (Ä2.«tuple.__le__» ⟨[.ref l,.ref b],[]⟩) (λ_ R s=>s.heap.get? l=some { cls:=.type "tuple",dict:=dd,data:=.seq i1 n,slots:=sl }/\s.heap.get? b=some { cls:=.type "tuple",dict:=dd2,data:=.seq i2 n2,slots:=sl2 }/\R (.ok (.ret (.bool (leB ns ms)))) s) :=
 .of_wp λP w A R s h=>by
  obtain⟨hp,g,d,tk,os⟩:=s;obtain⟨hl,hb,h⟩:=h;have f2:=Ú7;have z1:i1.size=ns.length:=by rw[← hi.length];simp
  have z2:i2.size=ms.length:=by rw[← hj.length];simp
  wp_walk using Ã6 hl,Ã6 hb,wpAny_forIn_list _ (λrest b s'=>b.1=none/\s'=⟨hp,g,d,tk,os⟩/\∃ (vs ws:List Ã) (ns' ms':List Int),rest=vs.zip ws/\Ê4 vs ns'/\Ê4 ws ms'/\ns'.length + i2.size=ms'.length + i1.size/\R (.ok (.ret (.bool (leB ns' ms')))) ⟨hp,g,d,tk,os⟩) _
  case turn =>
   rintro ⟨y,x⟩ rest b s' ⟨hb',rfl,vs,ws,ns',ms',hz,hvi,hwi,hlen,hR⟩;cases hvi with
   |nil=>rw[Ø0] at hz;cases hz
   |cons a t hvi' =>
    cases hwi with
    |nil=>rw[List.zip_nil_right] at hz;cases hz
    |cons c u hwi' =>
     rw[È7] at hz;injection hz with hyx hrest;injection hyx with hy hx;subst hy hx;rw[C31] at hR;simp only[Ô] at hlen;obtain⟨e,he,hiff⟩:=A21 A.in1 ⟨hp,g,d,tk,os⟩ a t c u;refine À (he P w _ _ ?_);cases e with
     |true =>
      rw[if_pos (hiff.mp rfl)] at hR;wp_walk;exact⟨rfl,rfl,_,_,_,_,hrest,hvi',hwi',by omega,hR⟩
     |false =>
      rw[if_neg (λq=>absurd (hiff.mpr q) Ð)] at hR;have hri:=C41 A.in1 ⟨hp,g,d,tk,os⟩ a t c u P w
      wp_walk using hri
      exact⟨_,rfl,by simpa using hR⟩
  case fin =>
   rintro ⟨b1,b2⟩ s' ⟨hb',rfl,vs,ws,ns',ms',hz,hvi,hwi,hlen,hR⟩;simp only at hb';subst hb';have hv:leB ns' ms'=decide (i1.size<=i2.size):=by
    cases hvi with
    |nil =>
     cases hwi with
     |nil=>simp only[Ã9] at hlen;exact(decide_eq_true ∅).symm|cons c u hw=>simp only[Ã9,Ô] at hlen;exact(decide_eq_true ∅).symm
    |cons a t hv =>
     cases hwi with
     |nil=>simp only[Ã9,Ô] at hlen;exact(decide_eq_false ∅).symm|cons c u hw=>rw[È7] at hz;cases hz
   rw[hv] at hR;wp_walk;exact⟨_,rfl,by simpa [tupleCompareSizes] using hR⟩
  case h=>exact⟨rfl,rfl,i1.toList,i2.toList,ns,ms,rfl,hi,hj,by omega,h⟩
end
section
variable {P:ß}{w:ò}{A:ù}{E:Ã->Å->Prop}{s:Å}
theorem g41{l b:Æ}{i1 i2:Array Ã}{ns ms:List Int}{Q:Ã->Å->Prop}(hl:Ï4 s.heap l i1)(hb:Ï4 s.heap b i2)(hi:Ê4 i1.toList ns)(hj:Ê4 i2.toList ms)
  (hu:A.units < Ä6) (h:Q (.bool (leB ns ms)) s):Ó (Ü P w) A (ÿ .LtE (.ref l) (.ref b)) Q E s:=by
 obtain⟨⟨cls,dd,data,sl⟩,ho,hc,n,hd⟩:=id hl;obtain⟨⟨cls2,dd2,data2,sl2⟩,ho2,hc2,n2,hd2⟩:=id hb;simp only at hc hd hc2 hd2;subst hc hd hc2 hd2;exact richCompare_meets_room (op:=.LtE) ⟨_,ho,rfl⟩ ⟨_,ho2,rfl⟩ PySem.F.slot_tuple_le PySem.F.entry_tuple_le (PySem.F.args_tuple_le_2 _ _) (H70 l b i1 i2 n n2 dd dd2 sl sl2 ns ms hi hj)
  ⟨ho,ho2,show Ç7 (leB ns ms)≠Ó2/\Q (.bool (leB ns ms)) s from⟨(λx=>nomatch x),h⟩⟩ hu
theorem P71{t b:Æ}{ws:List Ã}{Q:Ã->Å->Prop}(ht:Ï4 s.heap t #[])(hb:Ï4 s.heap b ws.toArray)(h:Q (.ref b) s):Ó (Ü P w) A (Ä7 .Add (.ref t) (.ref b)) Q E s:=by
 obtain⟨⟨cls,dd,data,sl⟩,ho,hc,n,hd⟩:=id ht;obtain⟨⟨cls2,dd2,data2,sl2⟩,ho2,hc2,n2,hd2⟩:=id hb;simp only at hc hd hc2 hd2;subst hc hd hc2 hd2;exact concat_meets ⟨_,ho,rfl⟩ ⟨_,ho2,rfl⟩ Ü1 seq_tuple_add Ð8 Ð1 (Î5 _ _) (tuple_addW0 t b #[] ws.toArray n n2 dd dd2 sl sl2 (by simp)) ⟨ho,ho2,h⟩
theorem N40:seqRepeat? (.type "tuple")=pure (some (.builtin "tuple.__mul__")):=by
 first | kernel_rfl | rfl | (unfold seqRepeat?;kernel_rfl)
theorem x60:fillsNumberSlot (.type "tuple") "mul"=pure false:=by
 first | kernel_rfl | rfl
theorem g51(a:Int)(t:Tok)(l:Æ)(xs:Array Ã)(n:Nat)(dd:Option Æ)(sl:Array (Option Ã)) :
  Meets (Ä2.«int.__rmul__» ⟨[.int a t,.ref l],[]⟩) (λ_ R s=>s.heap.get? l=some { cls:=.type "tuple",dict:=dd,data:=.seq xs n,slots:=sl }/\R (.ok (.ret Ó2)) s) :=
 .of_wp λP w A R s h=>by obtain⟨hp,g,d,tk,os⟩:=s;obtain⟨hl,h⟩:=h;wp_walk;exact⟨_,rfl,h⟩
theorem C51(l:Æ)(xs:Array Ã)(k:Int)(u:Tok)(n:Nat)(dd:Option Æ)(sl:Array (Option Ã))(h1:¬ (decide (k < -(2 ^ 63)) || decide (k ≥ 2 ^ 63))=true)(h2:(xs.isEmpty || k == 1)=true) :
  Meets (Ä2.«tuple.__mul__» ⟨[.ref l,.int k u],[]⟩) (λ_ R s=>s.heap.get? l=some { cls:=.type "tuple",dict:=dd,data:=.seq xs n,slots:=sl }/\R (.ok (.ret (.ref l))) s) :=
 .of_wp λP w A R s h=>by
  obtain⟨hp,g,d,tk,os⟩:=s;obtain⟨hl,h⟩:=h;have f1:=Ö1
  wp_walk using Â7 hl
  simp only[h1,if_false]
  wp_walk using Â7 hl
  exact⟨_,rfl,h⟩
theorem mul_zero(l:Æ)(xs:Array Ã)(k:Int)(u:Tok)(n:Nat)(dd:Option Æ)(sl:Array (Option Ã))(h1:¬ (decide (k < -(2 ^ 63)) || decide (k ≥ 2 ^ 63))=true)(h2:¬ (xs.isEmpty || k == 1)=true)(h3:(decide (k<=0) || xs.isEmpty)=true) :
  Meets (Ä2.«tuple.__mul__» ⟨[.ref l,.int k u],[]⟩) (λ_ R s=>s.heap.get? l=some { cls:=.type "tuple",dict:=dd,data:=.seq xs n,slots:=sl }/\R (.ok (.ret (.ref s.heap.objs.size))) { s with heap:=s.heap.push { cls:=.type "tuple",data:=.seq #[] } }) :=
 .of_wp λP w A R s h=>by
  obtain⟨hp,g,d,tk,os⟩:=s;obtain⟨hl,h⟩:=h;have f1:=Ö1
  wp_walk using Â7 hl
  simp only[h1,if_false]
  wp_walk using Â7 hl
  exact⟨_,rfl,h⟩
theorem C61(l:Æ)(xs:Array Ã)(k:Int)(u:Tok)(n:Nat)(dd:Option Æ)(sl:Array (Option Ã))(h1:¬ (decide (k < -(2 ^ 63)) || decide (k ≥ 2 ^ 63))=true)(h2:¬ (xs.isEmpty || k == 1)=true)(h3:¬ (decide (k<=0) || xs.isEmpty)=true)
  (h4:¬ (xs.size:Int) * k > (2 ^ 63 - 1) / 8) (h5:¬ tupleTooMany ((xs.size:Int) * k)=true) (h6:(foldl (λx y=>x++y) #[] (ï k.toNat xs)).size<=sizeLine) :
  Meets (Ä2.«tuple.__mul__» ⟨[.ref l,.int k u],[]⟩) (λ_ R s=>s.heap.get? l=some { cls:=.type "tuple",dict:=dd,data:=.seq xs n,slots:=sl }/\R (.ok (.ret (.ref s.heap.objs.size))) { s with heap:=s.heap.push { cls:=.type "tuple",data:=.seq (foldl (λx y=>x++y) #[] (ï k.toNat xs)) } }) :=
 .of_wp λP w A R s h=>by
  obtain⟨hp,g,d,tk,os⟩:=s;obtain⟨hl,h⟩:=h;have f1:=Ö1
  wp_walk using Â7 hl
  simp only[h1,if_false]
  wp_walk using Â7 hl
  simp only[h4,h5,if_false];refine À (m:=Ë9 _) (À0 (Ë ?_) h6);exact⟨_,rfl,h⟩
theorem q50{t sl:Æ}{xs:Array Ã}{vl vu:Ã}{lo hi:Option Int}{Q:Ã->Å->Prop}(ht:Ï4 s.heap t xs)(hs:s.heap.IsSliceOf sl vl vu .none)(pl:Ö6 vl lo)(pu:Ö6 vu hi)
  (hw:sIx xs.size 0 lo=0/\sIx xs.size xs.size hi=xs.size) (h:Q (.ref t) s):Ó (Ü P w) A (Ö8 (.ref t) (.ref sl)) Q E s:=by
 obtain⟨os,hos,hcs,hds⟩:=id hs;have hTs:s.TypeIs (.ref sl) "slice":=⟨os,hos,hcs⟩;unfold Ö8;try with_reducible refine Å1 ?_
 first | refine À (Ë ?_) | skip
 refine À (wpAny_sequenceKey ht.typeIs (-0) ?_);refine À (Ä1 (name:=Á6 "__getitem__") ht.typeIs Â1 (Æ3 Â1 ht.typeIs entry_tuple_getitem ?_ (args_tuple_getitem _ _)))
 show Ó _ _ (tupleItemsOf (.ref t) >>= _) _ _ s;refine À (tupleItemsOf_ ht (À (Ï6 hTs ?_)));rw[if_pos (-0)];refine À (l60 hs pl pu ?_)
 rw[hw.1,hw.2];show Ó _ _ (if (((0:Nat):Int) == 0&&(1:Int) == 1&&(xs.size - 0) == xs.size)=true then _ else _) _ _ s;rw[if_pos (by simp)]
 refine À (m:=tupleIsExact _) ?_;unfold tupleIsExact;refine À (Ï6 ht.typeIs (Ë ?_));rw[if_pos (-0)]
 first
  |exact À (Ð3 (Ë ⟨_,rfl,Ë h⟩))
  |exact À (Ð3 (À (Ë (Ë ⟨_,rfl,Ë h⟩))))
end
end HT
namespace L2
open PySem PySem.Spec PyProof.Rows
theorem a30.sqT{K:Á}{H H':Hp}{a:Æ}{xs:List V}(e:a30 H H')(h:SqT K H a xs):SqT K H' a xs:=by
 rcases h with (h | ⟨o,h⟩) | h
 ·exact .inl (.inl (e _ _ h))
 ·exact .inl (.inr ⟨o,e _ _ h⟩)
 ·exact .inr h
theorem a30.new(o:HO)(n:H p=none):a30 H (upd H p o):=λb u e=>by rw[a40 (a70 e n)];exact e
def C71(K:Á)(H:Hp)(zs:List V)(Q:VK):Prop:=∀ p H',a30 H H'->SqT K H' p zs->Q (.ref p) H'
section
variable {X:Cx}{pins:List (Æ × Obj)}{σ:St}{H:Hp}{s:Å}
theorem C71.here(q:C71 X.K H zs Q)(I:Inv X pins σ H s)(h:SqT X.K H a zs):EP X pins σ Q (.ref a) s:=⟨.ref a,H,I,rfl,q a H (a30.refl H) h⟩
theorem C71.new(q:C71 X.K H zs Q)(I:Inv X pins σ H s)(r:Vals zs us)(hz:zs.length<=sizeLine) :
  EP X pins σ Q (.ref s.heap.objs.size) { s with heap:=s.heap.push { cls:=.type "tuple",data:=.seq us.toArray } } :=
 have hn:H s.heap.objs.size=none:=I.hok.fresh (Ì _)
 ⟨.ref s.heap.objs.size,_,I.laid (t':=s.toks) (o:=.tup zs) (λb ob q=>Ä _ q) (Ì _) ⟨hz,_,r,Ï4.new _ _⟩,rfl,q _ _ (a30.new _ hn) (SqT.of b20)⟩
end
section
variable {X:Cx}
def J72(K:Á):R2:=λx y H Q=>∃ a b ns ms,x=.ref a/\y=.ref b/\SqT K H a (ns.map V.int)/\SqT K H b (ms.map V.int)/\Q (.bl (HT.leB ns ms)) H
theorem e42(hu:X.A.units < Ä6):OpR X (ÿ .LtE) (J72 X.K):=by
 intro pins s σ H x y v u Q I rx ry h;obtain⟨a,b,ns,ms,rfl,rfl,ha,hb,q⟩:=h;cases rx;cases ry;obtain⟨v1,r1,p1,_⟩:=I.tuple ha;obtain⟨v2,r2,p2,_⟩:=I.tuple hb;exact HT.g41 p1 p2 (show Ê4 v1.toArray.toList ns from intsAre_of r1) (show Ê4 v2.toArray.toList ms from intsAre_of r2) hu ⟨.bl (HT.leB ns ms),H,I,rfl,q⟩
def u42(K:Á):R2:=λx y H Q=>∃ a b xs ys,x=.ref a/\y=.ref b/\SqT K H a xs/\SqT K H b ys/\xs.length + ys.length<=sizeLine/\C71 K H (xs++ys) Q
theorem P81:OpR X (Ä7 .Add) (u42 X.K):=by
 intro pins s σ H x y v u Q I rx ry h;obtain⟨a,b,xs,ys,rfl,rfl,ha,hb,hz,q⟩:=h;cases rx;cases ry;obtain⟨v1,r1,p1,_⟩:=I.tuple ha;obtain⟨v2,r2,p2,_⟩:=I.tuple hb;by_cases hx:xs=[]
 ·subst hx;have e:=r1.G50.mpr rfl;subst e;exact HT.P71 p1 p2 (q.here I hb)
 ·refine HT.N51 p1 p2 (λz=>hx (r1.G50.mp z)) (λz=>?_) (λz=>q.new I (r1.append r2) (by rw[õ];exact hz)) (by rw[← r1.length,← r2.length];exact hz)
  have e:=r2.G50.mp z;subst e;rw[Á9] at q;exact q.here I ha
def u52(K:Á):R2:=λx y H Q=>∃ a k xs,x=.ref a/\y=.int k/\SqT K H a xs/\0<=k/\k < 1000000/\k.toNat * xs.length<=sizeLine/\C71 K H (ï k.toNat xs).flatten Q
theorem P91:OpR X (Ä7 .Mult) (u52 X.K):=by
 intro pins s σ H x y v u Q I rx ry h;obtain⟨a,k,xs,rfl,rfl,ha,hk,hk2,hz,q⟩:=h;cases rx;obtain⟨t,rfl⟩:=ry;obtain⟨v1,r1,p1,_⟩:=I.tuple ha;have hl:=r1.length;obtain⟨⟨cls,dd,data,sl⟩,ho,hc,n,hd⟩:=id p1;simp only at hc hd;subst hc hd;have h1:¬ (decide (k < -(2 ^ 63)) || decide (k ≥ 2 ^ 63))=true:=by simp;omega
 refine wpAny_binaryOp_repeat_ref (T:="tuple") (U:="int") (-0) ⟨_,ho,rfl⟩ (λs'=>Ù7 s' k t) HT.x60 F.fills_int_mul Ó8 HT.N40 F.slot_int_index.lookup
  (Ç4 Ó8 (Ù7 s k t) F.entry_int_rmul (F.args_int_rmul_2 _ _) (HT.g51 k t a v1.toArray n dd sl) ⟨ho,rfl,⟨_,ho,rfl⟩,?_⟩)
 by_cases hx:v1=[]∨k=1
 ·refine Ç4 Û5 ⟨_,ho,rfl⟩ Ú3 (Ø7 _ _) (HT.C51 a v1.toArray k t n dd sl h1 (by rcases hx with hx | hx <;> simp[hx])) ⟨ho,?_⟩
  have e2:(ï k.toNat xs).flatten=xs:=by
   rcases hx with hx | hx
   ·rw[r1.G50.mp hx];simp
   ·rw[hx];simp
  rw[e2] at q;exact q.here I ha
 ·have hv:v1≠[]:=λz=>hx (.inl z);have h2:¬ (v1.toArray.isEmpty || k == 1)=true:=by simp[hv];exact λz=>hx (.inr z)
  by_cases hk0:k=0
  ·refine Ç4 Û5 ⟨_,ho,rfl⟩ Ú3 (Ø7 _ _) (HT.mul_zero a v1.toArray k t n dd sl h1 h2 (by simp[hk0])) ⟨ho,?_⟩
   rw[show(ï k.toNat xs).flatten=[] by rw[hk0];rfl] at q
   exact q.new I .nil (Æ6 _)
  have hpos:0 < v1.length:=List.length_pos_iff.mpr hv;have hfl:foldl (λx y=>x++y) #[] (ï k.toNat v1.toArray)=(ï k.toNat v1).flatten.toArray:=by
   have:=foldl_rep v1 k.toNat [];rw[Ï0] at this;exact this
  have hsz:v1.length * k.toNat<=sizeLine:=by rw[← hl,Ø5];exact hz
  have hcast:((v1.toArray.size:Nat):Int) * k=((v1.length * k.toNat:Nat):Int):=by rw[Õ,Int.natCast_mul,Int.toNat_of_nonneg ∅]
  have hline:(sizeLine:Nat)<=(2 ^ 63 - 1) / 8:=by decide
  refine Ç4 Û5 ⟨_,ho,rfl⟩ Ú3 (Ø7 _ _) (HT.C61 a v1.toArray k t n dd sl h1 h2 (by simp[hv];omega) (by rw[hcast];generalize v1.length * k.toNat=m at hsz;omega) (by rw[hcast];generalize v1.length * k.toNat=m at hsz;unfold tupleTooMany;intro z;have z':=of_decide_eq_true z;omega)
   (by rw[hfl,Õ,len_rep,Ø5];exact hsz)) ⟨ho,?_⟩
  rw[hfl];exact q.new I (r1.rep k.toNat) (by rw[len_rep];exact hz)
def J82(K:Á):V->Option Int->Option Int->Hp->VK->Prop:=λx lo hi H Q=>∃ a xs,x=.ref a/\SqT K H a xs/\C71 K H (A51 xs lo hi) Q
theorem Q01:SlR X (J82 X.K):=by
 intro pins s σ H x v vl vu lo hi sl Q I rx hs pl pu h;obtain⟨a,xs,rfl,hx,q⟩:=h;cases rx;obtain⟨its,r,ht,hz⟩:=I.tuple hx;have hlen:its.toArray.size=xs.length:=by rw[Õ];exact r.length.symm
 refine⟨"tuple",_,Â1.lookup,ht.typeIs,?_⟩;by_cases hw:HT.sIx xs.length 0 lo=0/\HT.sIx xs.length xs.length hi=xs.length
 ·refine HT.q50 ht hs pl pu (by rw[hlen];exact hw) ?_
  have e:A51 xs lo hi=xs:=by unfold A51;rw[hw.1,hw.2];simp
  rw[e] at q;exact q.here I hx
 ·refine HT.u60 ht hs pl pu (by rw[hlen];exact hw) ?_ (by rw[hlen];exact hz)
  rw[hlen];exact q.new I ((r.drop (HT.sIx xs.length 0 lo)).take (HT.sIx xs.length xs.length hi - HT.sIx xs.length 0 lo)) (Ò (z20 xs lo hi) hz)
def t92(K:Á)(te ts:TE):TE:=λσ H Q=>te σ H λx H1=>ts σ H1 λy H2=>y=.int (-1)/\((∃ a xs,x=.ref a/\SqT K H2 a xs/\C71 K H2 xs.reverse Q)∨∃ a xs,x=.ref a/\SqL K H2 a xs/\∀ p,H2 p=none->Q (.ref p) (upd H2 p (.lst xs.reverse)))
theorem Inv.big(I:Inv X pins σ H s):sysModules < s.heap.objs.size:=by
 have h:æ < s.heap.objs.size:=(I.mod.glob.keeps I.bk).lt;exact Nat.lt_trans (-0) h
def u62:TE:=λ_ H Q=>∀ p,H p=none->Q (.ref p) (upd H p (.dK []))
theorem Q11:PE X (.Dict [] [] pos) u62:=λpins s σ H Q I h =>
 wpAny_Dict_empty ⟨.ref s.heap.objs.size,_,I.laid (a:=s.heap.objs.size) (o:=.dK []) (t':=s.toks) (λ_ _ q=>Ä _ q) (Ì _) ⟨Æ6 _,beq_eq_false_iff_ne.mpr (Á0 (ä I.big)),[],.nil,ë.DictOf.new _⟩,rfl,h _ (I.hok.fresh (Ì _))⟩
end
end L2
namespace MySort
open PySem PySem.W PyProof.Rows
section
variable {P:ß}{w:ò}{A:ù}{E:Ã->Å->Prop}{s:Å}
theorem T40{l:Æ}{o:Obj}{vs:List Ã}{n:Nat}{Q:List Ã->Å->Prop}(ho:s.heap.get? l=some o)(hc:o.cls=.type "list"∨o.cls=.type "tuple")(hd:o.data=.seq vs.toArray n)
  (h:Q vs { s with heap:=(s.heap.push (Â9 "list" #[] 0)).update s.heap.objs.size (À4 (·++vs.toArray)) }) (hz:vs.length<=sizeLine):Ó (Ü P w) A (collect (.ref l)) Q E s:=by
 unfold collect;refine À (wpAny_runValue (Ê2 entry_proto_collect' ?_));show Ó _ _ (do again (.builtin "list.__iadd__" ⟨[← newList [],.ref l],[]⟩)) _ _ s;refine À (wpAny_newList (Ë ⟨Code.quiet_builtin _ (by decide +kernel),Ê2 entry_list_iadd' ?_⟩))
 show Ó _ _ (Ë3 (.ref s.heap.objs.size) (.ref l) (.ref s.heap.objs.size)) _ _ { s with heap:=s.heap.push (Â9 "list" #[] 0) };unfold Ë3;have ho':(s.heap.push (Â9 "list" #[] 0)).get? l=some o:=Ä _ ho;have fin:Ó (Ü P w) A (do
   let o ← load s.heap.objs.size
   match o.data with
   |.seq xs _=>pure xs.toList
   |_=>unsupported "internal:collect") Q E { s with heap:=(s.heap.push (Â9 "list" #[] 0)).update s.heap.objs.size (À4 (·++vs.toArray)) }:=by
  refine À (wpAny_load (Ý2 (Ï _ rfl) _) ?_);show Ó _ _ (pure ((#[]:Array Ã)++vs.toArray).toList) Q E _;rw[show((#[]:Array Ã)++vs.toArray).toList=vs by simp];exact Ë h
 rcases hc with hc | hc
 ·refine À (Ï6 (T:="list") ⟨o,ho',hc⟩ ?_);rw[if_pos (by rw[show(Ã5 "list" == Ã5 "list")=true by rfl];simp)]
  refine À (Ï7 ho' hd (À (Ï7 (xs:=#[]) (n:=0) (Ï _ rfl) rfl ?_)));rw[if_neg (by simp)]
  exact À (Ù1 (xs:=#[]) (n:=0) (Ï _ rfl) rfl (Ë fin) (Æ6 _) (by show(#[]++vs.toArray).size<=sizeLine + 1;simp only[Array.size_append,Õ,Ã9];omega))
 ·refine À (Ï6 (T:="tuple") ⟨o,ho',hc⟩ ?_);rw[if_pos (by rw[show(Ã5 "tuple" == Ã5 "tuple")=true by rfl];simp)]
  refine À (Ï7 ho' hd (À (Ï7 (xs:=#[]) (n:=0) (Ï _ rfl) rfl ?_)));rw[if_neg (by simp)]
  exact À (Ù1 (xs:=#[]) (n:=0) (Ï _ rfl) rfl (Ë fin) (Æ6 _) (by show(#[]++vs.toArray).size<=sizeLine + 1;simp only[Array.size_append,Õ,Ã9];omega))
theorem o01{l:Æ}{o:Obj}{vs:List Ã}{Pr:List Nat->Prop}{kd:Ê0}{n:Nat}{Q:Ã->Å->Prop}(ho:s.heap.get? l=some o)(hc:o.cls=.type "list"∨o.cls=.type "tuple")(hd:o.data=.seq vs.toArray n)
  (hk:∀ h',n61 s.heap h'->Z51 P w A.in1.in1 { s with heap:=h' } vs Pr kd)
  (h:∀ (p:List Nat) (h':ë) (c:Nat),Pr p->(∀ b o,s.heap.get? b=some o->h'.get? b=some o)->h'.get? (s.heap.objs.size + 1)=some (Â9 "list" (p.map λi=>vs.getD i é).toArray c)->Q (.ref (s.heap.objs.size + 1)) { s with heap:=h' }) :
  Ó (Ü P w) A (call (.builtin "sorted") [.ref l]) Q E s:=by
 have h64:=(hk s.heap λ_ _ e _=>e).len;refine Calls.call_function_entry kind_sorted plain_sorted entry_sorted (args_sorted1 _) ?_;unfold Ä2.«sorted»;refine À (m:=checkCount "sorted" 1 1 _) (Ë ?_);refine À (T40 ho hc hd ?_ (by rw[Â8];omega));refine À (wpAny_newList ?_ (by rw[Â8];omega))
 have hsz:((s.heap.push (Â9 "list" #[] 0)).update s.heap.objs.size (À4 (·++vs.toArray))).objs.size=s.heap.objs.size + 1:=by rw[ë.size_update,size_push']
 have hoL:(((s.heap.push (Â9 "list" #[] 0)).update s.heap.objs.size (À4 (·++vs.toArray))).push (Â9 "list" vs.toArray 0)).get? (s.heap.objs.size + 1)=some (Â9 "list" vs.toArray 0):=by rw[← hsz];exact Ï _ rfl
 have keep:∀ b o,s.heap.get? b=some o->(((s.heap.push (Â9 "list" #[] 0)).update s.heap.objs.size (À4 (·++vs.toArray))).push (Â9 "list" vs.toArray 0)).get? b=some o:=λb o q=>by
  have hlt:b < s.heap.objs.size:=á q;rw[ë.get?_push_ne _ _ _ (by rw[hsz];exact ä (Ì5 hlt)),ë.get?_update_ne _ _ _ _ (ä hlt),ë.get?_push_ne _ _ _ (ä hlt)];exact q
 show Ó _ _ _ _ _ { s with heap:=((s.heap.push (Â9 "list" #[] 0)).update s.heap.objs.size (À4 (·++vs.toArray))).push (Â9 "list" vs.toArray 0) };rw[hsz];refine À (Å1 (Æ3 slot_list_sort ⟨_,hoL,rfl⟩ entry_list_sort (B51 hoL (λh' kp=>hk h' λb o e hc=>kp b o (keep b o e) hc) λp h' c hp kp hD=>⟨_,rfl,Ë ⟨_,rfl,h p h' c hp (λb o e=>kp b o (ä (Ì5 (á e))) (keep b o e)) hD⟩⟩) (args_list_sort _)))
end
end MySort
namespace L2
open PySem PySem.Spec PyProof.Rows
open MySort (sortedBy)
section
variable {X:Cx}
def C81(X:Cx)(H:Hp)(xs:List V)(Pr:List Nat->Prop):Prop:=∀ (pins:List (Æ × Obj)) (σ:St) (s:Å) (us:List Ã),Inv X pins σ H s->Vals xs us->∃ kd,∀ h',MySort.n61 s.heap h'->MySort.Z51 X.prog X.w X.A.in1.in1 { s with heap:=h' } us Pr kd
theorem w30:e60 X (.builtin "sorted") (λargs H Q=>∃ a xs,∃ Pr:List Nat->Prop,args=[.ref a]/\(SqL X.K H a xs∨SqT X.K H a xs)/\C81 X H xs Pr/\(∀ p,Pr p->∀ i∈p,i < xs.length)/\∀ p l,Pr p->H l=none->Q (.ref l) (upd H l (.lst (p.map λi=>xs.getD i .non)))):=by
 intro pins s σ H args us Q I r h;obtain⟨a,xs,Pr,rfl,hq,hk,hpr,q⟩:=h;obtain⟨u,rfl,rx⟩:=vals1 r;cases rx;have go:∀ (its:List Ã) (o:Obj) (n:Nat),Vals xs its->s.heap.get? a=some o->(o.cls=.type "list"∨o.cls=.type "tuple")->o.data=.seq its.toArray n->Ó (Ü X.prog X.w) X.A (call (.builtin "sorted") [.ref a]) (EP X pins σ Q) X.xe s:=λits o n rv ho hc hd=>by
  obtain⟨kd,kw⟩:=hk pins σ s its I rv;have k0:=kw s.heap λ_ _ e _=>e;refine MySort.o01 ho hc hd kw λp h' c hp kp hD=>?_;have hn:H (s.heap.objs.size + 1)=none:=I.hok.fresh (Ê8 _ 1);have hlen:(p.map λi=>xs.getD i .non).length<=sizeLine:=by rw[Ç,k0.all p hp,Â8];have:=k0.len;omega
  have rv':Vals (p.map λi=>xs.getD i .non) (p.map λi=>its.getD i é):=by
   have hall:=hpr p hp;clear hp hD hlen
   induction p with
   |nil=>exact .nil
   |cons i r ih =>
    refine .cons ?_ (ih λj hj=>hall j (Ê _ hj));have hi:=hall i É;obtain⟨u,hu,ru⟩:=rv.get (i:=i) (x:=xs[i]) (by simp[hi])
    have e1:xs.getD i V.non=xs[i]:=by simp[hi]
    have e2:its.getD i é=u:=by rw[Ö,hu];rfl
    show RelV (xs.getD i V.non) (its.getD i é);rw[e1,e2];exact ru
  exact⟨.ref (s.heap.objs.size + 1),_,I.laid (t':=s.toks) kp (Ê8 _ 1) (show h00 X.prog X.w _ h' _ (.lst _) from⟨hlen,_,c,rv',hD⟩),rfl,q p _ hp hn⟩
 rcases hq with hq | hq
 ·obtain⟨its,rv,pl,_⟩:=I.list hq;obtain⟨o,ho,hc,n,hd⟩:=pl.isList;exact go its o n rv ho (.inl hc) hd
 ·obtain⟨its,rv,⟨o,ho,hc,n,hd⟩,_⟩:=I.tuple hq;exact go its o n rv ho (.inr hc) hd
end
section
variable {K:Á}{g:TG}{tt:TT}{te:TE}{σ0:St}{H:Hp}{Q:VK}
theorem C91{lo:Int}{n:Nat}(Pv:Nat->List V->Hp->Prop)(hz:n<=sizeLine)(h0:Pv 0 [] H)(hl:∀ i ys H,Pv i ys H->ys.length<=i)
  (hs:∀ i ys H,i < n->Pv i ys H->g (.int (lo + i)) σ0 H λσ2 H2=>tt σ2 H2 λb H3=>if b=true then te σ2 H3 (λy H4=>Pv (i + 1) (ys++[y]) H4) else Pv (i + 1) ys H3)
  (hd:∀ ys H p,Pv n ys H->H p=none->Q (.ref p) (upd H p (.lst ys))):A91 (Itr lo n) σ0 H g tt te Q:=by
 refine⟨λi m ys H=>m=n - i/\i<=n/\Pv i ys H,⟨n,by simp,Æ6 _,h0⟩,?_⟩
 rintro i m ys H ⟨rfl,hi,p⟩;have hy:=hl i ys H p;by_cases hlt:i < n
 ·refine .inr ⟨hlt,by omega,Pv (i + 1),λzs H' p'=>⟨n - (i + 1),by omega,rfl,hlt,p'⟩,λx H' y=>?_⟩
  obtain⟨e,y⟩:=y;subst e y;exact hs i ys _ hlt p
 ·have e:i=n:=by omega
  subst e;exact .inl ⟨Ì _,λz hz=>hd ys H z p hz⟩
end
inductive D where
 |non | bl (b:Bool) | int (i:Int) | str (x:Str) | tup (ds:List D) | lst (ds:List D) | dct
def D.ty:D->String
 |.non=>"NoneType"|.bl _=>"bool"|.int _=>"int"|.str _=>"str"|.tup _=>"tuple"|.lst _=>"list"|.dct=>"dict"
mutual
def Has(K:Á)(H:Hp):D->V->Prop
 |.non,v=>v=.non|.bl b,v=>v=.bl b|.int i,v=>v=.int i|.str x,v=>v=.str x|.tup ds,v=>∃ a xs,v=.ref a/\SqT K H a xs/\D80 K H ds xs|.lst ds,v=>∃ a xs,v=.ref a/\SqL K H a xs/\D80 K H ds xs|.dct,v=>∃ a kvs,v=.ref a/\H a=some (.dK kvs)
def D80(K:Á)(H:Hp):List D->List V->Prop
 |[],xs=>xs=[]|d::ds,xs=>∃ x r,xs=x::r/\Has K H d x/\D80 K H ds r
end
def isB(T C:String):Bool:=T == C || (T == "bool"&&C == "int")
theorem Q21(K:Á)(d:D):∀ C∈["int","bool","tuple","list","str"],Ì9 K (.type d.ty) (.type C)=some (isB d.ty C):=by
 intro C hC;simp only[È8,Æ4,or_false] at hC;rcases hC with rfl | rfl | rfl | rfl | rfl <;> cases d <;> first | rfl | kernel_rfl | decide +kernel
section
variable {X:Cx}
theorem D01:e60 X (.builtin "isinstance") (λxs H Q=>∃ d x C,xs=[x,.ty C]/\Has X.K H d x/\C∈["int","bool","tuple","list","str"]/\Q (.bl (isB d.ty C)) H):=by
 intro pins s σ H xs us Q I r h;obtain⟨d,x,C,rfl,hd,hC,q⟩:=h;obtain⟨u,w',rfl,rx,rt⟩:=vals2 r;cases (show w'=Ã5 C from rt);have e:=Q21 X.K d C hC;have fin:∀ tk,EP X pins σ Q (.bool (isB d.ty C)) { s with toks:=tk }:=λtk=>⟨.bl _,H,I.tok tk,rfl,q⟩;cases d with
 |non=>unfold Has at hd;subst hd;cases rx;exact Å9 kitx_none I.kIn É2 e (λz=>nomatch z) fin
 |bl b=>unfold Has at hd;subst hd;cases rx;exact Å9 kitx_bool I.kIn É2 e (λz=>nomatch z) fin
 |int i=>unfold Has at hd;subst hd;obtain⟨t,rfl⟩:=rx;exact Å9 kitx_int I.kIn É2 e (λz=>nomatch z) fin
 |str y=>unfold Has at hd;subst hd;obtain⟨t,rfl⟩:=rx;exact Å9 kitx_str I.kIn É2 e (λz=>nomatch z) fin
 |tup ds =>
  unfold Has at hd;obtain⟨a,ys,rfl,hq,_⟩:=hd;cases rx;obtain⟨its,_,⟨o,h1,h2,_⟩,_⟩:=I.tuple hq;exact Å9 kitx_tuple I.kIn ⟨o,h1,h2⟩ e (λz=>nomatch z) fin
 |lst ds =>
  unfold Has at hd;obtain⟨a,ys,rfl,hq,_⟩:=hd;cases rx;obtain⟨its,_,pl,_⟩:=I.list hq;obtain⟨o,h1,h2,_⟩:=pl.isList;exact Å9 kitx_list I.kIn ⟨o,h1,h2⟩ e (λz=>nomatch z) fin
 |dct =>
  unfold Has at hd;obtain⟨a,kvs,rfl,hq⟩:=hd;cases rx;obtain⟨_,_,vs,_,p⟩:=(show h00 X.prog X.w H s.heap a (.dK kvs) from I.hok a _ hq);obtain⟨o,es,ep,h1,h2,_⟩:=p;exact Å9 kitx_dict I.kIn ⟨o,h1,h2.1⟩ e (λz=>nomatch z) fin
end
def hide(st:Æ)(H:Hp):Hp:=λb=>if b=st then none else H b
theorem f90(st:Æ)(H:Hp):a30 (hide st H) H:=λb o e=>by
 unfold hide at e;split at e
 ·cases e
 ·exact e
theorem z60{st:Æ}{H H':Hp}(e:∀ b o,b≠st->H b=some o->H' b=some o):a30 (hide st H) (hide st H'):=λb o h=>by
 unfold hide at h ⊢;by_cases q:b=st
 ·rw[if_pos q] at h;cases h
 ·rw[if_neg q] at h ⊢;exact e b o q h
theorem H80{st b:Æ}{H:Hp}{o:HO}(h:H b=some o)(n:b≠st):hide st H b=some o:=by
 unfold hide;rw[if_neg n];exact h
end L2
namespace L2
open PySem PySem.Spec PyProof.Rows
def o11(sc scX:ú)(N own:List Str)(capt:List (Str × Nat)):Bool :=
 sc.kind == .function&&sc.names.all (λy=>y.2 != .cell)&&sc.names.all (λy=>y.2 != .local || sc.names.lookup y.1 == some .local) &&
  sc.names.all (λy=>y.2 != .free || (scX.names.lookup y.1 == some .cell || scX.names.lookup y.1 == some .free))&&capt.all λp=>N[p.2]? == some p.1&&sc.names.lookup p.1 == some .free
theorem p20.of{X:Cx}{sc scX:ú}{N own:List Str}{capt:List (Str × Nat)}(e:X.env.scope=scX)(eN:X.N=N)(h:o11 sc scX N own capt=true):p20 X sc own capt:=by
 unfold o11 at h;simp only[Â] at h;obtain⟨⟨⟨⟨h1,h2⟩,h3⟩,h4⟩,h5⟩:=h;rw[Â0] at h2 h3 h4 h5;refine⟨by simpa using h1,λy hy=>by simpa using h2 y hy,λy hy hl=>?_,λy hy hf=>?_,λp hp=>?_⟩
 ·have:=h3 y hy;rw[hl] at this;simpa using this
 ·have:=h4 y hy;rw[hf] at this;show X.env.scope.names.lookup y.1=_∨X.env.scope.names.lookup y.1=_;rw[e];simpa using this
 ·have:=h5 p hp;rw[eN];simpa using this
theorem gN{i:Nat}{v:V}{σ:St}{H:Hp}{R:St->Hp->Prop}(h:R (σ.set i (some v)) H):S50 i v σ H R:=h
theorem D11{σ:St}{H:Hp}{R:Bool->Hp->Prop}(h:R true H):A81 σ H R:=h
theorem z70{n:Nat}(h:n<=64):n<=sizeLine:=Ò h (-0)
section
variable {X:Cx}
theorem e52(K:Á)(d:D):kitAny K (.type d.ty) [.type "tuple",.type "list"]=some (isB d.ty "tuple" || isB d.ty "list"):=by
 have e1:=Q21 K d "tuple" (by simp)
 have e2:=Q21 K d "list" (by simp)
 unfold kitAny;rw[e1];cases isB d.ty "tuple" with
 |true=>rfl
 |false =>
  show kitAny K (.type d.ty) [.type "list"]=_;unfold kitAny;rw[e2];cases isB d.ty "list" <;> rfl
theorem o21:e60 X (.builtin "isinstance") (λxs H Q=>∃ d x a,xs=[x,.ref a]/\Has X.K H d x/\SqT X.K H a [.ty "tuple",.ty "list"]/\Q (.bl (isB d.ty "tuple" || isB d.ty "list")) H):=by
 intro pins s σ H xs us Q I r h;obtain⟨d,x,a,rfl,hd,hq,q⟩:=h;obtain⟨u,w',rfl,rx,rt⟩:=vals2 r;cases (show w'=Á3 a from rt);obtain⟨its,rv,⟨⟨cls,dd,data,sl⟩,ho,hc,n,hdt⟩,_⟩:=I.tuple hq;simp only at hc hdt;subst hc hdt;have eits:its=[.type "tuple",.type "list"]:=by
  cases rv with
  |cons p r=>cases r with
   |cons p2 r2=>cases r2;rw[show _=Ã5 "tuple" from p,show _=Ã5 "list" from p2]
 subst eits;have e:=e52 X.K d;have fin:∀ tk,EP X pins σ Q (.bool (isB d.ty "tuple" || isB d.ty "list")) { s with toks:=tk }:=λtk=>⟨.bl _,H,I.tok tk,rfl,q⟩;cases d with
 |non=>unfold Has at hd;subst hd;cases rx;exact Õ2 kitx_none I.kIn É2 ho e (λz=>nomatch z) fin
 |bl b=>unfold Has at hd;subst hd;cases rx;exact Õ2 kitx_bool I.kIn É2 ho e (λz=>nomatch z) fin
 |int i=>unfold Has at hd;subst hd;obtain⟨t,rfl⟩:=rx;exact Õ2 kitx_int I.kIn É2 ho e (λz=>nomatch z) fin
 |str y=>unfold Has at hd;subst hd;obtain⟨t,rfl⟩:=rx;exact Õ2 kitx_str I.kIn É2 ho e (λz=>nomatch z) fin
 |tup ds =>
  unfold Has at hd;obtain⟨b,ys,rfl,hq',_⟩:=hd;cases rx;obtain⟨_,_,⟨o,h1,h2,_⟩,_⟩:=I.tuple hq';exact Õ2 kitx_tuple I.kIn ⟨o,h1,h2⟩ ho e (λz=>nomatch z) fin
 |lst ds =>
  unfold Has at hd;obtain⟨b,ys,rfl,hq',_⟩:=hd;cases rx;obtain⟨_,_,pl,_⟩:=I.list hq';obtain⟨o,h1,h2,_⟩:=pl.isList;exact Õ2 kitx_list I.kIn ⟨o,h1,h2⟩ ho e (λz=>nomatch z) fin
 |dct =>
  unfold Has at hd;obtain⟨b,kvs,rfl,hq'⟩:=hd;cases rx;obtain⟨_,_,vs,_,p⟩:=(show h00 X.prog X.w H s.heap b (.dK kvs) from I.hok b _ hq');obtain⟨o,es,ep,h1,h2,_⟩:=p;exact Õ2 kitx_dict I.kIn ⟨o,h1,h2.1⟩ ho e (λz=>nomatch z) fin
end
open PySem PySem.Spec PyProof.Rows PySem.SeqAt
theorem H90(l b:Æ)(es:Array DictEntry)(n:Nat)(it:Array Ã)(n2:Nat)(dd dd2:Option Æ)(sl sl2:Array (Option Ã)) :
  Meets (Ä2.«dict.__ne__» ⟨[.ref l,.ref b],[]⟩) (λ_ R s=>s.heap.get? l=some { cls:=.type "dict",dict:=dd,data:=.dict es n,slots:=sl }/\s.heap.get? b=some { cls:=.type "tuple",dict:=dd2,data:=.seq it n2,slots:=sl2 }/\R (.ok (.ret .notImplemented)) s) :=
 .of_wp λprog w A R s h=>by
  obtain⟨hp,g,d,tk,os⟩:=s;obtain⟨hl,hb,h⟩:=h;have f1:=F.sub_tuple_dict
  wp_walk using Ã6 hl,Ã6 hb
  exact⟨_,rfl,h⟩
theorem I00(l b:Æ)(es:Array DictEntry)(n:Nat)(it:Array Ã)(n2:Nat)(dd dd2:Option Æ)(sl sl2:Array (Option Ã)) :
  Meets (Ä2.«tuple.__ne__» ⟨[.ref b,.ref l],[]⟩) (λ_ R s=>s.heap.get? l=some { cls:=.type "dict",dict:=dd,data:=.dict es n,slots:=sl }/\s.heap.get? b=some { cls:=.type "tuple",dict:=dd2,data:=.seq it n2,slots:=sl2 }/\R (.ok (.ret .notImplemented)) s) :=
 .of_wp λprog w A R s h=>by
  obtain⟨hp,g,d,tk,os⟩:=s;obtain⟨hl,hb,h⟩:=h;have f1:=F.sub_dict_tuple
  wp_walk using Ã6 hl,Ã6 hb
  exact⟨_,rfl,h⟩
section
variable {X:Cx}
theorem Q31(hu:X.A.units + 64 < Ä6):OpR X (ÿ .NotEq) (λx y H Q=>∃ a b kvs xs,x=.ref a/\y=.ref b/\H a=some (.dK kvs)/\SqT X.K H b xs/\Q (.bl true) H):=by
 intro pins s σ H x y v u Q I rx ry h;obtain⟨a,b,kvs,xs,rfl,rfl,ha,hb,q⟩:=h;cases rx;cases ry;obtain⟨v2,r2,⟨o2,h2,c2,n2,d2⟩,_⟩:=I.tuple hb;obtain⟨_,_,vs,_,p⟩:=(show h00 X.prog X.w H s.heap a (.dK kvs) from I.hok a _ ha);obtain⟨o1,es,n1,h1,c1,d1,_⟩:=p;have c1:=c1.1;obtain⟨cls,dd,data,sl⟩:=o1;obtain⟨cls2,dd2,data2,sl2⟩:=o2;simp only at c1 d1 c2 d2;subst c1 d1 c2 d2;have hne:a≠b:=λe=>by
  subst e;rw[h1] at h2;simp at h2
 have hu':X.A.units < cLine:=by omega
 refine rc_ne_decline_or (k:=false) ⟨_,h1,rfl⟩ ⟨_,h2,rfl⟩ (-0) F.sub_tuple_dict F.slot_dict_ne F.slot_tuple_ne_refl
  (λ_ hq=>Ç4 F.slot_dict_ne ⟨_,h1,rfl⟩ F.entry_dict_ne (F.args_dict_ne_2 _ _) (H90 a b es n1 v2.toArray n2 dd dd2 sl sl2) ⟨h1,h2,hq⟩)
  (λ_ hq=>Ç4 F.slot_tuple_ne_refl ⟨_,h2,rfl⟩ F.entry_tuple_ne (F.args_tuple_ne_2 _ _) (I00 a b es n1 v2.toArray n2 dd dd2 sl sl2) ⟨h1,h2,hq⟩)
  (λ_ hq=>wpAny_isSame_ref_other hne h1 h2 (by simp) hq) (.inr hu') ⟨.bl true,H,I,rfl,q⟩
end
end L2
namespace L2
open PySem PySem.Spec PyProof.Rows
section
variable {P:ß}{w:ò}{A:ù}{E:Ã->Å->Prop}{s:Å}
abbrev eT1(h:ë)(l:Æ):Heap:=h.push { cls:=.type "tuple_iterator",data:=.fields #[.ref l,.int 0 0] }
abbrev eT2(h:ë)(l:Æ):Heap:=(eT1 h l).push { cls:=.type "enumerate",data:=.fields #[.none,.bool false,.ref h.objs.size,Ç8 0,.none,.none] }
end
def Ite(b:Bool)(K:Á)(a:Æ):It :=
 ⟨λi H=>∃ xs x,SqB b K H a xs/\xs[i]?=some x,
  λi H v H'=>∃ T,v=.ref T/\H T=none/\∀ xs x,SqB b K H a xs->xs[i]?=some x->H'=upd H T (.tup [.int i,x]),
  λi H=>∃ xs,SqB b K H a xs/\xs.length=i⟩
def J92(K:Á)(ta:TA):TI:=λσ H R=>ta σ H λvs H1=>∃ b a,vs=[.ref a]/\(∃ xs,SqB b K H1 a xs)/\R (Ite b K a) H1
end L2
namespace HT
open PySem PySem.W PyProof.Rows
set_option maxRecDepth 100000
section
variable {P:ß}{w:ò}{A:ù}{E:Ã->Å->Prop}{s:Å}
theorem I10{r:Æ}{a b c:Int}{t u v:Tok}{n:Nat}{Q:List Ã->Å->Prop}(hh:A.handled=none)(hr:Ô0 s.heap r a b c t u v)(hs:Ñ0 a b c=true)(hn:Â6 a b c=n)(hl:n<=2 ^ 24)
  (hQ:∀ (h':ë) (tk:Nat) (acc:Array Ã),(∀ b o,s.heap.get? b=some o->h'.get? b=some o)->s.heap.objs.size<=h'.objs.size->ItemsOf (λi v=>∃ t,v=.int (a + i * c) t) acc n->Q acc.toList { s with heap:=h',toks:=tk }):Ó (Ü P w) A (collect (.ref r)) Q E s:=by
 unfold collect;refine À (wpAny_runValue (Ê2 PySem.F.entry_proto_collect ?_));rw[Ó0 PySem.F.plain_proto_collect _];show Ó _ A.in1 (newList [] >>= λl=>again (.builtin "list.__iadd__" ⟨[l,.ref r],[]⟩)) _ _ s;refine À (À0 (Ë ⟨plainId_quiet Û7 _,Ê2 PySem.F.entry_list_iadd ?_⟩));rw[Ó0 Û7 _];show Ó _ A.in1 (Ë3 (.ref s.heap.objs.size) (.ref r) (.ref s.heap.objs.size)) _ _ { s with heap:=s.heap.push (Â9 "list" #[] 0) };have hS:(s.heap.push (Â9 "list" #[] 0)).get? s.heap.objs.size=some { cls:=.type "list",data:=.seq #[] 0 }:=Ï _ rfl;refine Â5 (wpAny_extend_range (A:=A) (s:={ s with heap:=s.heap.push (Â9 "list" #[] 0) }) (R:=λx s'=>x=.ok (.ret (.ref s.heap.objs.size))/\∃ h' tk acc c',s'={ s with heap:=h',toks:=tk }/\(∀ b o,s.heap.get? b=some o->h'.get? b=some o)/\h'.get? s.heap.objs.size=some { cls:=.type "list",dict:=none,data:=.seq acc c',slots:=#[] }/\ItemsOf (λi v=>∃ t,v=.int (a + i * c) t) acc n) hh (Ä _ hr) hs hn hl _ (.ref s.heap.objs.size) 0 hS λh' tk acc c' hk hS' hi=>⟨rfl,h',tk,acc,c',rfl,λb o e=>hk b o (ä (á e)) (Ä _ e),hS',hi⟩) (λfin s' h=>?_) λe s' h=>?_
 ·have go:∀ s',(∃ h' tk acc c',s'={ s with heap:=h',toks:=tk }/\(∀ b o,s.heap.get? b=some o->h'.get? b=some o)/\h'.get? s.heap.objs.size=some { cls:=.type "list",dict:=none,data:=.seq acc c',slots:=#[] }/\ItemsOf (λi v=>∃ t,v=.int (a + i * c) t) acc n)->Ó (Ü P w) A (match Á3 s.heap.objs.size with
   |Á3 a=>do
    match (← load a).data with
     |Data.seq xs _=>pure xs.toList|_=>unsupported "internal:collect"
   |_=>unsupported "internal:collect") Q E s':=λs' ⟨h',tk,acc,c',e,hk,hS',hi⟩=>by
   subst e;show Ó _ A (load s.heap.objs.size >>= _) _ _ _;exact À (wpAny_load hS' (Ë (hQ h' tk acc hk (Í6 (á hS')) hi)))
  cases fin with
  |done f =>
   obtain⟨e,h⟩:=h;cases e;exact go _ h
  |again c'=>exact⟨h.1,Ë7 h.2 λx s'' hx=>by obtain⟨rfl,hx⟩:=hx;exact go _ hx⟩
 ·exact absurd h.1 (by simp)
open AutoSeq1 (wpAny_loadPart')
theorem z80{r:Æ}{a b c:Int}{t u v:Tok}{n:Nat}{Q:Ã->Å->Prop}(hh:A.handled=none)(hr:Ô0 s.heap r a b c t u v)(hs:Ñ0 a b c=true)(hn:Â6 a b c=n)(hl:n<=200000)
  (hQ:∀ (h':ë) (tk:Nat) (acc:Array Ã),(∀ b o,s.heap.get? b=some o->h'.get? b=some o)->s.heap.objs.size<=h'.objs.size->ItemsOf (λi v=>∃ t,v=.int (a + i * c) t) acc n->Q (.ref h'.objs.size) { s with heap:=h'.push { cls:=.type "tuple",data:=.seq acc },toks:=tk }) :
  Í3 (Ü P w) A (.call (.builtin "tuple.__new__") ⟨[.type "tuple",.ref r],[]⟩) (wants Q E) s:=by
 refine codeAny_of_tree ?_;show Ó _ A.in1 (do Ü3 "tuple.__new__" ⟨[.type "tuple",.ref r],[]⟩;again (.builtin "tuple.__new__" ⟨[.type "tuple",.ref r],[]⟩)) _ _ s;refine À (wpAny_of_eq (PySem.F.newCall_tuple_1 _) (Ë ⟨plainId_quiet Û6 _,Ê2 PySem.F.entry_tuple_new ?_⟩));rw[Ó0 Û6 _];have k1:=sub_tuple_self;have k2:=init_tuple_lookup;have k3:=madeHere_tuple;have k4:s.TypeIs (.ref r) "range":=⟨_,hr,rfl⟩
 wp_walk using Ï6 k4,I10 (n:=n) (show A.in1.handled=none from hh) hr hs hn ∅
 intro h' tk acc hk hz hi;show Ó _ _ (Ë9 acc.toList.toArray >>= λv=>ret v) _ _ _;unfold Ë9;rw[Î9];refine À (À0 (Ë (hQ h' tk acc hk hz hi)) (by show acc.size<=_;rw[hi.1,Â8];omega))
theorem tuple_range{r:Æ}{a b c:Int}{t u v:Tok}{n:Nat}{Q:Ã->Å->Prop}(hh:A.handled=none)(hr:Ô0 s.heap r a b c t u v)(hs:Ñ0 a b c=true)(hn:Â6 a b c=n)(hl:n<=200000)
  (hQ:∀ (h':ë) (tk:Nat) (acc:Array Ã),(∀ b o,s.heap.get? b=some o->h'.get? b=some o)->s.heap.objs.size<=h'.objs.size->ItemsOf (λi v=>∃ t,v=.int (a + i * c) t) acc n->Q (.ref h'.objs.size) { s with heap:=h'.push { cls:=.type "tuple",data:=.seq acc },toks:=tk }):Ó (Ü P w) A (call (.type "tuple") [.ref r]) Q E s:=by
 refine callType_codes (Q₁:=λobj s₁=>s₁.TypeIs obj "tuple"/\Q obj s₁) Ò5 (PySem.F.typeCall_tuple_1 _) PySem.F.entry_object_init (z80 hh hr hs hn hl λh' tk acc hk hz hi=>⟨⟨_,Ï _ rfl,rfl⟩,hQ h' tk acc hk hz hi⟩) λobj s₁ h₁=>?_;exact⟨h₁.1,PySem.F.args_object_init_2 obj _,object_init_meets Ò5.init.lookup Ò5.made (-0) P w A.in1 _ s₁ ⟨h₁.1,rfl,h₁.2⟩⟩
end
end HT
namespace L2
open PySem PySem.Spec PyProof.Rows
theorem h00.there(x:h00 P w H h a o):∃ u,h.get? a=some u:=by
 cases o with
 |lst xs=>obtain⟨_,_,_,_,e⟩:=x;exact⟨_,e⟩
 |tup xs=>obtain⟨_,_,_,o,e,_⟩:=x;exact⟨_,e⟩
 |dK kvs=>obtain⟨_,_,_,_,o,_,_,e,_⟩:=x;exact⟨_,e⟩
 |dT kvs=>obtain⟨_,_,_,_,o,_,_,e,_⟩:=x;exact⟨_,e⟩
 |set S n=>obtain⟨o,_,_,_,e,_⟩:=x;exact⟨_,e⟩
 |ins C dx fs=>obtain⟨_,_,_,e,_⟩:=x;exact⟨_,e⟩
 |own y=>obtain⟨_,e⟩:=x;exact⟨_,e⟩
 |xd fs=>obtain⟨_,⟨_,_,_,e,_⟩,_⟩:=x;exact⟨_,e⟩
 |rng lo hi=>obtain⟨_,_,_,e⟩:=x;exact⟨_,e⟩
 |frz ob u=>obtain⟨e,_⟩:=x;exact⟨_,e⟩
 |tbl ps=>exact⟨_,(show h.get? a=some _ from x)⟩|met f y=>exact⟨_,(show h.get? a=some _ from x)⟩|ext φ=>obtain⟨_,⟨_,e⟩,_⟩:=x;exact⟨_,e⟩
def InB(B:ë)(fs:List Æ)(H':Hp)(h h':ë):Prop:=∀ b u,h'.get? b=some u->b ∉ fs->((∃ o,h.get? b=some o)∨H' b≠none)->B.get? b=some u
def CX1(P:ß)(w:ò):CXT:=λouter H s E e s'=>∃ (a:Æ) (cls a0:Ã) (H':Hp) (B:ë),e=.ref a/\s'.os=s.os/\Ò1 s'.gens/\Un (frs outer) [] H H' s.heap s'.heap/\HOk P w H' s'.heap /\
 ë.FlyingW B outer a cls a0 s'.heap/\H' a=none/\InB B (frs outer) H' s.heap s'.heap/\E cls (some a) H'
section
variable {X:Cx}{pins:List (Æ × Obj)}{σ:St}{H H':Hp}{s s':Å}{B h'':ë}{a:Æ}{cls a0:Ã}{E:XK}
theorem T50(hS:X.stack=X.env::X.outer)(hx:X.ex=[])(hf:X.env.frame=some X.env.locals)(I:Inv X pins σ H s)(os:s'.os=s.os)(bare:Ò1 s'.gens)(un:Un (frs X.stack) [] H H' s.heap s'.heap)(hok:HOk X.prog X.w H' s'.heap)
  (bB:InB B (frs X.stack) H' s.heap s'.heap) (na:H' a=none) (fl:ë.FlyingW B X.outer a cls a0 h'') (sm:s'.heap.UpToSlots h'') (he:E cls (some a) H'):CX1 X.prog X.w X.outer X.H₀ X.s₀ E (.ref a) { s' with heap:=h'' }:=by
 have hfs:frs X.stack=X.env.locals::frs X.outer:=by rw[hS];unfold frs;rw[À7,hf]
 have U1:=I.base;rw[hx] at U1;have U:Un (frs X.stack) [] X.H₀ H' X.s₀.heap s'.heap:=(U1.mono (λb hb=>by rw[hfs];exact Ê _ hb) λb hb=>hb).trans un
 have nL:∀ b o,X.s₀.heap.get? b=some o->b ∉ frs X.outer->b ∉ frs X.stack:=λb o e hn hm=>by
  rw[hfs] at hm;rcases è.mp hm with z | z
  ·exact absurd (á e) (by rw[z];exact Nat.not_lt.mpr I.ok.above)
  ·exact hn z
 have frN:∀ b∈frs X.stack,H' b=none:=λb hb=>by
  obtain⟨_,o,ho,_⟩:=I.stack.mem hb;exact un.free b o ho (I.u50 b hb) (by simp)
 have old:∀ b o,X.s₀.heap.get? b=some o->b ∉ frs X.outer->∃ u,s'.heap.get? b=some u/\B.get? b=some u:=λb o e hn=>by
  obtain⟨o1,e1⟩:=U1.there b o e (by simp)
  obtain⟨o2,e2⟩:=un.there b o1 e1 (by simp)
  exact⟨o2,e2,bB b o2 e2 (nL b o e hn) (.inl ⟨o1,e1⟩)⟩
 have trk:∀ b,H' b≠none->∃ u,s'.heap.get? b=some u/\B.get? b=some u:=λb hb=>by
  obtain⟨o,e⟩:=Ú5.mp hb;obtain⟨u,eu⟩:=(hok b o e).there;exact⟨u,eu,bB b u eu (λhm=>by rw[frN b hm] at e;cases e) (.inr hb)⟩
 refine⟨a,cls,a0,H',B,rfl,os.trans I.os,bare,⟨λb o e n hb _=>?_,λb o e n hb _=>?_,λb o e n hb=>U.free b o e n hb,λb o e _=>?_,U.tups,U.frzs,U.tbls⟩,λc o e=>?_,fl,na,λb u e hn hor=>?_,he⟩
 ·obtain⟨u,e1,e2⟩:=old b o e hb;have e3:=U.keep b o e n (nL b o e hb) (by simp)
  rw[e1] at e3;cases e3;exact fl.1 b _ e2
 ·obtain⟨sl,e1⟩:=U.slot b o e n (by rw[hfs];exact Ê _ hb) (by simp)
  obtain⟨_,o',ho',hd⟩:=I.ok.f11.mem hb;rw[e] at ho';cases ho';obtain⟨sl',e2⟩:=sm b _ e1 hd;exact⟨sl',e2⟩
 ·by_cases hb:b∈frs X.outer
  ·obtain⟨_,o',ho',_⟩:=fl.2.2.1.mem hb;exact⟨o',ho'⟩
  ·obtain⟨u,_,e2⟩:=old b o e hb;exact⟨u,fl.1 b _ e2⟩
 ·refine(hok c o e).f01 (λb u hb q=>?_) (λ_ q=>q) λ_ _ q=>q;have hbn:H' b≠none:=by
   rcases hb with rfl | hb
   ·rw[e];exact λz=>nomatch z
   ·rw[hb];exact λz=>nomatch z
  obtain⟨u',e1,e2⟩:=trk b hbn;rw[q] at e1;cases e1;exact fl.1 b _ e2
 ·have:∃ u',B.get? b=some u':=by
   rcases hor with ⟨o,ho⟩ | hor
   ·obtain⟨u',_,e2⟩:=old b o ho hn;exact⟨u',e2⟩
   ·obtain⟨u',_,e2⟩:=trk b hor;exact⟨u',e2⟩
  obtain⟨u',e2⟩:=this;have e3:=fl.1 b _ e2;rw[e] at e3;cases e3;exact e2
end
section
variable {P:ß}{w:ò}{K:Á}{mg:Str->Option Ã}{base:ë}{N:List Str}{qual:Str}{scope:ú}{f:Æ}{cd:Ã}{A:ù}{outer:List Env}{s₀:Å}{H₀:Hp}{E:XK}
theorem o31(I:Inv (C90 (CX1 P w) P w K mg base N qual scope f cd A outer s₀ H₀ E) pins σ H s)(hx:ë.MadeExcOf s.heap h' e cls vs)(he:E cls (some e) H) :
  (C90 (CX1 P w) P w K mg base N qual scope f cd A outer s₀ H₀ E).xe (.ref e) { s with heap:=h' }:=by
 have hin:∀ env∈(C90 (CX1 P w) P w K mg base N qual scope f cd A outer s₀ H₀ E).stack,∀ a,env.frame=some a->a∈frs (C90 (CX1 P w) P w K mg base N qual scope f cd A outer s₀ H₀ E).stack:=λenv he a ha=>Õ8.mpr ⟨env,he,ha⟩;have kB:(hideAll s.heap (frs (C90 (CX1 P w) P w K mg base N qual scope f cd A outer s₀ H₀ E).stack)).StaysIn s.heap:=λb o q=>of_hideAll _ q;show Ó _ _ (leaving _ _) _ _ _;refine wpAny_leaves_madeW (base:=hideAll s.heap (frs (C90 (CX1 P w) P w K mg base N qual scope f cd A outer s₀ H₀ E).stack)) (h:=s.heap) I.ok.frames rfl kB (PySem.W.funFrames_hide I.stack hin) hx λh'' t fl _ _ sm=>?_;have na:H e=none:=by
  cases z:H e with
  |none=>rfl|some o=>obtain⟨u,eu⟩:=(I.hok e o z).there;rw[hx.new] at eu;cases eu
 refine T50 (X:=C90 (CX1 P w) P w K mg base N qual scope f cd A outer s₀ H₀ E) (s':={ s with heap:=h' }) rfl rfl rfl I rfl I.bare (Un.kept hx.keeps) (I.hok.kept hx.keeps) (λb u q hn hor=>?_) na fl sm he;have:∃ o,s.heap.get? b=some o:=by
  rcases hor with hor | hor
  ·exact hor
  ·obtain⟨o,z⟩:=Ú5.mp hor;exact(I.hok b o z).there
 obtain⟨o,ho⟩:=this;have:=hx.keeps b o ho;have q':h'.get? b=some u:=q;rw[this] at q';cases q';exact hideAll_get _ ho hn
theorem u72:Passes (CX1 P w) (C90 (CX1 P w) P w K mg base N qual scope f cd A outer s₀ H₀ E) E:=by
 intro pins σ H s e s' I h;obtain⟨a,cls,a0,H',B,rfl,os,bare,un,hok,fl,na,bB,he⟩:=h;show Ó _ _ (leaving _ _) _ _ _;refine wpAny_leaves_onW I.ok.frames rfl fl λh'' fl' sm=>?_;exact T50 (X:=C90 (CX1 P w) P w K mg base N qual scope f cd A outer s₀ H₀ E) (s':=s') rfl rfl rfl I os bare un hok bB na fl' sm he
end
theorem Q41{K:Á}{h:ë}{C:Æ}{bmB:List Ã}{newId:String}(KX:K.In h)(hq:Ë1 K C bmB newId=true) :
  ∃ bm N nm q bs hdct sn sub ab col dd k0 k1 k2 k3 k5 mN,h.get? C=some (excClassObj nm q C N bs bm hdct sn sub ab col dd k0 k1 k2 k3 k5 newId)/\h.Ns N mN/\mN "__init__"=none/\OwnTail h bmB bm:=by
 unfold Ë1 at hq;split at hq
 case h_2=>cases hq
 case h_1 dd cd sl ho =>
  split at hq
  case h_2=>cases hq
  case h_1 C' bm k0 k1 k2 k3 n k5 hm hs =>
   simp only[Â,beq_iff_eq,î] at hq;obtain⟨⟨⟨⟨⟨z1,z2⟩,hdel⟩,ht⟩,hok⟩,hni⟩:=hq;subst z1 z2;cases cd with
   |mk nm bs mro ns qn hd sn sub ab col del =>
    dsimp only at hm hdel hok hni;subst hm hdel;have esl:sl=#[k0,k1,k2,k3,some (.builtin n),k5]:=by cases sl with | mk l=>simp only at hs;rw[hs]
    subst esl;refine⟨bm,ns,nm,qn,bs,hd,sn,sub,ab,col,dd,k0,k1,k2,k3,k5,h.nsMap ns,KX _ _ ho,?_,PySem.W.nsMap_none_of_in KX hok hni,PySem.W.tail_of_in KX ht⟩;exact .of_isNs (PySem.W.isNs_of_in KX hok)
def I20(X:Cx)(E:XK):Prop:=∀ (pins:List (Æ × Obj)) (σ:St) (H:Hp) (s:Å) (h':ë) (e:Æ) (cls:Ã) (vs:List Ã),Inv X pins σ H s->ë.MadeExcOf s.heap h' e cls vs->E cls (some e) H->X.xe (.ref e) { s with heap:=h' }
theorem o41{P:ß}{w:ò}{K:Á}{mg:Str->Option Ã}{base:ë}{N:List Str}{qual:Str}{scope:ú}{f:Æ}{cd:Ã}{A:ù}{outer:List Env}{s₀:Å}{H₀:Hp}{E:XK} :
  I20 (C90 (CX1 P w) P w K mg base N qual scope f cd A outer s₀ H₀ E) E:=λ_ _ _ _ _ _ _ _ I hx he=>o31 I hx he
def e62(E:XK)(C:Æ)(t:TA):TS:=λ_ σ H=>t σ H λvs H1=>vs.length<=sizeLine/\∀ e,H1 e=none->E (.ref C) (some e) H1
section
variable {X:Cx}{x:Str}{C:Æ}{E:XK}{e₀:Ñ}{rest:List Ñ}{t:TA}{np cpos pos:Pos}
theorem D21(hE:I20 X E)(hc:X.calm=true)(hg:Gl X x)(hm:X.mg x=some (.ref C))(hq:Ë1 X.K C [.type "ValueError",.type "Exception",.type "BaseException",.type "object"] "ValueError.__new__"=true)(ha:PA X (e₀::rest) t)
  (hdb:(x == ("__debug__":Str))=false:=by decide) (he:û (e₀::rest) X.env=(false,eval e₀ X.env)::û rest X.env:=by rfl) (hpl:(Ó9 cpos (û rest X.env)).any (·.1)=false:=by rfl) :
  PS X (.Raise (some (.Call (.Name x np) (e₀::rest) [] cpos)) none pos) (e62 E C t):=by
 intro pins s σ H D I h;obtain⟨bm,N,nm,q,bs,hdct,sn,sub,ab,col,dd,k0,k1,k2,k3,k5,mN,hC,hN,hni,T⟩:=Q41 I.ok.mod.kin hq;refine wpAny_Raise_call_subT (C:=C) (nm:=nm) (q:=q) (N:=N) (bs:=bs) (bm:=bm) (hdct:=hdct) (sn:=sn) (sub:=sub) (ab:=ab) (col:=col) (dd:=dd) (k0:=k0) (k1:=k1) (k2:=k2) (k3:=k3) (k5:=k5)
  Ù9 (mN:=mN) (T.hasType Ù9.hasBase) (I.ok.hd hc) (by rw[he];exact hpl) hni (G20 I hg hm ⟨rfl,?_⟩ hdb)
 have k:=ha cpos pins s σ H _ I h;rw[he] at k ⊢;refine Þ3 (thn k λus s2 ⟨vs,H2,I2,r,z,q⟩=>⟨rfl,by show us.length<=_;rw[← r.length];exact z,I2.bk _ _ hC,hN.keeps I2.bk,T.keeps I2.bk,λh' e hx=>?_⟩)
 refine hE pins σ H2 s2 h' e _ us I2 hx (q e ?_);cases z:H2 e with
 |none=>rfl|some o=>obtain⟨u,eu⟩:=(I2.hok e o z).there;rw[hx.new] at eu;cases eu
end
open PySem PySem.Spec PyProof.Rows PySem.W PySem.Builtin PySem.Builtin.ObjectAttr PySem.Builtin.Getset_descriptor
section
variable {prog:ß}{w:ò}{A:ù}{E:Ã->Å->Prop}{K:Á}{h:ë}{gg:Array GenState}{d:Drawn}{t:Nat}{os:OsState}{x D:Æ}{ox:Obj}
structure i00(K:PySem.W.Frag)(D:Addr):Prop where
 ga:findIn K (.ref D) "__getattribute__"=some (some (.builtin "BaseException.__getattribute__"))
 gh:findIn K (.ref D) "__getattr__"=some none
 mb:mroIn K D (.type "BaseException")=some true
 mo:mroIn K D (.type "object")=some true
 fc:findIn K (.ref D) "__class__"=some (some (.builtin "object.__class__"))
 fg:specialIn K (.builtin "object.__class__") "__get__"=some (some (.builtin "getset_descriptor.__get__"))
 ft:takesIn K (.builtin "object.__class__")=some true
def excAt(a D:Æ)(h:ë):Prop:=∃ ox,h.get? a=some ox/\ox.cls=.ref D
theorem excAt.ty{M:Model}{a D:Æ}{h:ë}(p:excAt a D h):Looks M h (typeOf (.ref a)) (.ref D):=by
 obtain⟨ox,e,c⟩:=p;rw[← c];exact(Looks.ld e).andThen .now
theorem D31{M:Model}(KX:K.In h)(L:i00 K D):Looks M h (find (.ref x) (.ref D) "__class__") (.bind (.builtin "getset_descriptor.__get__") (.builtin "object.__class__")):=by
 have l1:=looks_takesIn (M:=M) KX L.ft;have l2:Looks M h (dataDescriptor? (some (.builtin "object.__class__")) (some (.builtin "getset_descriptor.__get__"))) (some (.builtin "getset_descriptor.__get__",.builtin "object.__class__")):=l1.andThen .now;exact(looks_findIn KX L.fc).andThen ((looks_specialIn KX L.fg).andThen (l2.andThen (Looks.tag .now)))
theorem Q51{R:Result->Å->Prop}{tp:Ã}(KX:K.In h)(I:excAt x D h)(hm:mroIn K D (.type "object")=some true)(hq:R (.ok (.ret (.ref D))) ⟨h,gg,d,t,os⟩) :
  Í3 (Ü prog w) A (.call (.builtin "getset_descriptor.__get__") ⟨[.builtin "object.__class__",.ref x,tp],[]⟩) R ⟨h,gg,d,t,os⟩:=by
 have L0:=I.ty (M:=Ü prog w);have L1:=looks_mroIn (M:=Ü prog w) KX hm
 (refine codeAny_call_builtin KF.slot_gs.plain KF.entry_gs (KF.slot_gs.check _ _ _ _ _ _ _ _ KF.type_class (KF.args_gs _ _ _) ?_);unfold Ä2.«getset_descriptor.__get__» descrGet;rw[dga_obj];refine À (Ë ?_);unfold descrGetter descrCheckInstance descrNameAndClass isInstance;simp only[KF.owner_class];repeat lk)
 (refine⟨Code.quiet_builtin _ (by decide +kernel),Ê2 KF.entry_class ?_⟩;unfold Ä2.«object.__class__» shownTypeOf;repeat lk)
 exact hq
theorem o51{M:Model}{nameV:Ã}{Q:Unit->Å->Prop}(KX:K.In h)(I:excAt x D h)(L:i00 K D)(hq:Q () ⟨h,gg,d,t,os⟩) :
  Ó M A (Ü3 "BaseException.__getattribute__" ⟨[.ref x,nameV],[]⟩) Q E ⟨h,gg,d,t,os⟩:=by
 have hkd:builtinKind "BaseException.__getattribute__"=some .slot:=by decide +kernel
 have hsp:splitId "BaseException.__getattribute__"=some ("BaseException","__getattribute__"):=by decide +kernel
 have L0:=I.ty (M:=M);have L1:=looks_mroIn (M:=M) KX L.mb;have ha:=F.args_bexc_ga (.ref x) nameV;simp only[Ü3,hkd,hsp];unfold isInstance;refine À (À (L0.at (L1.at ?_)))
 repeat (first | assumption | wp_step)
theorem o61{tk:Tok}{Q:Fin->Å->Prop}(KX:K.In h)(I:excAt x D h)(L:i00 K D)(hq:Q (.done (.ret (.ref D))) ⟨h,gg,d,t,os⟩) :
  Ó (Ü prog w) A (Ä2.«object.__getattribute__» ⟨[.ref x,.str "__class__" tk],[]⟩) Q E ⟨h,gg,d,t,os⟩:=by
 have L0:=I.ty (M:=Ü prog w);have L1:=D31 (M:=Ü prog w) (x:=x) KX L
 (unfold Ä2.«object.__getattribute__»);refine À (Ë (À (Ë (À (L0.at (À (L1.at ?_)))))))
 show Ó _ _ (holding [Ï9 "object.__class__"] (call (.builtin "getset_descriptor.__get__") [.builtin "object.__class__",.ref x,.ref D]) >>= _) _ _ _;refine À (Å1 (Ù6 (Q51 KX I L.mo ?_)));exact Ë hq
theorem D41{tk:Tok}{R:Result->Å->Prop}(KX:K.In h)(I:excAt x D h)(L:i00 K D)(hq:R (.ok (.ret (.ref D))) ⟨h,gg,d,t,os⟩) :
  Í3 (Ü prog w) A (.call (.builtin "BaseException.__getattribute__") ⟨[.ref x,.str "__class__" tk],[]⟩) R ⟨h,gg,d,t,os⟩ :=
 codeAny_call_builtin F.attr_ValueError.ga.plain F.entry_bexc_ga (o51 KX I L (o61 KX I L hq))
theorem e72{tk:Tok}{fill expr:Bool}{Q:Ã->Å->Prop}(KX:K.In h)(I:excAt x D h)(L:i00 K D)(hq:Q (.ref D) ⟨h,gg,d,t,os⟩) :
  Ó (Ü prog w) A (getAttrBy (.ref x) (.str "__class__" tk) fill expr) Q E ⟨h,gg,d,t,os⟩:=by
 have L0:=I.ty (M:=Ü prog w);have L1:=looks_findIn (M:=Ü prog w) KX L.ga;have L2:=looks_findIn (M:=Ü prog w) KX L.gh;have f3:=F.attr_ValueError.ga.bind (.ref x);have hno:(expr&&onTheHeap (Ï9 "BaseException.__getattribute__"))=false:=by cases expr <;> rfl
 unfold getAttrBy
 (refine Å1 (À (L0.at (À (L1.at ?_)))));
 show Ó _ _ (getAttrByItsOwn _ _ _ _ _ _) _ _ _;unfold getAttrByItsOwn hookBefore;rw[if_pos (show onTheHeap (Á3 D)=true from rfl)];refine À (L2.at ?_);unfold callGetattribute;rw[hno,if_neg (-0)]
 unfold boundAndCalled
 (refine À (Ò3 (Å1 ?_)))
 repeat (any_goals (first | assumption | (with_reducible refine Ù6 (D41 KX I L ?_)) | wp_step))
theorem D51(KX:K.In s.heap)(I:excAt x D s.heap)(L:i00 K D)(hq:Q (some (.ref D)) { s with toks:=s.toks + 1 }):Ó (Ü prog w) A (getAttr? (.ref x) "__class__") Q E s:=by
 obtain⟨h,gg,d,t,os⟩:=s;unfold getAttr? getAttrBy?;refine À (wpAny_mkText (À (Ò3 (e72 KX I L ?_))));exact Ë hq
theorem D61(L:i00 K D)(hd:hasDictIn K D=true):KitX K (.ref x) (.ref D) (excAt x D) where
 ty:=λ_ _ _ I=>I.ty
 it:=λM h KX _=>by
  obtain⟨cdD,hcD,_⟩:=any_some hd;unfold clsIn at hcD;split at hcD
  case h_2=>cases hcD
  case h_1 ho =>
   intro A' Q' E' s' k q;unfold isType loadHead;exact À (wpAny_loadPart (k _ _ (KX _ _ ho)) (Ë q))
 ne:=λh tp dd its n sl KX htp=>by
  obtain⟨cdD,hcD,_⟩:=any_some hd;refine Bool.eq_false_iff.mpr λsame=>?_;cases Á3.inj (beq_iff_eq.mp same);unfold clsIn at hcD;split at hcD
  case h_2=>cases hcD
  case h_1 ho=>cases (KX _ _ ho).symm.trans htp
 ca:=λKX I k=>D51 KX I L k
end
def e82(H:Hp)(a D:Æ):Prop:=H a=some (.ext (excAt a D))
theorem g61{a D:Æ}{h1 h2:ë}(h:excAt a D h1)(k:∀ o,h1.get? a=some o->h2.get? a=some o):excAt a D h2:=by
 obtain⟨ox,e,c⟩:=h;exact⟨ox,k _ e,c⟩
section
variable {X:Cx}
theorem g71:e60 X (.builtin "isinstance") (λxs H Q=>∃ (a D:Æ) (c:V) (cv:Ã) (b:Bool),xs=[.ref a,c]/\((∃ C,c=.ref C/\cv=.ref C)∨∃ T,c=.ty T/\cv=.type T)/\e82 H a D/\i00 X.K D/\hasDictIn X.K D=true/\kitOne X.K (.ref D) cv=some b/\Q (.bl b) H):=by
 intro pins s σ H xs us Q I r h;obtain⟨a,D,c,cv,b,rfl,hc,hx,L,hd,e,q⟩:=h;obtain⟨u,w',rfl,rx,rt⟩:=vals2 r;cases (show u=Á3 a from rx);obtain⟨hp,_,_⟩:=(show h00 X.prog X.w H s.heap a (.ext (excAt a D)) from I.hok a _ hx);have fin:∀ tk,EP X pins σ Q (.bool b) { s with toks:=tk }:=λtk=>⟨.bl b,H,I.tok tk,rfl,q⟩;have ew:w'=cv:=by
  rcases hc with ⟨C,rfl,rfl⟩ | ⟨T,rfl,rfl⟩
  ·exact rt
  ·exact rt
 subst ew;exact kia_one (D61 L hd) I.kIn hp e (λz=>by rcases hc with ⟨C,_,rfl⟩ | ⟨T,_,rfl⟩ <;> exact nomatch z) fin
end
end L2
namespace L2
open PySem PySem.Spec PyProof.Rows
section
variable {X:Cx}{pins:List (Æ × Obj)}{σ:St}{H H':Hp}{s s':Å}{B h4:ë}
theorem K01(I:Inv X pins σ H s)(os:s'.os=s.os)(bare:Ò1 s'.gens)(un:Un (frs X.stack) [] H H' s.heap s'.heap)(hok:HOk X.prog X.w H' s'.heap)(bB:InB B (frs X.stack) H' s.heap s'.heap)(kB:B.StaysIn h4)(sm:s'.heap.UpToSlots h4) :
  Inv X pins σ H' { s' with heap:=h4 }:=by
 have frN:∀ b∈frs X.stack,H' b=none:=λb hb=>by
  obtain⟨_,o,ho,_⟩:=I.stack.mem hb;exact un.free b o ho (I.u50 b hb) (by simp)
 have fr4:∀ b o,s.heap.get? b=some o->b∈frs X.stack->∃ sl,h4.get? b=some { o with slots:=sl }:=λb o e hb=>by
  obtain⟨sl,e1⟩:=un.slot b o e (I.u50 b hb) hb (by simp)
  obtain⟨_,o',ho',hd⟩:=I.stack.mem hb;rw[e] at ho';cases ho';obtain⟨sl',e2⟩:=sm b _ e1 hd;exact⟨sl',e2⟩
 have old:∀ b o,s.heap.get? b=some o->b ∉ frs X.stack->∃ u,s'.heap.get? b=some u/\h4.get? b=some u:=λb o e hn=>by
  obtain⟨o2,e2⟩:=un.there b o e (by simp)
  exact⟨o2,e2,kB b _ (bB b o2 e2 hn (.inl ⟨o,e⟩))⟩
 refine I.b02 (s':={ s' with heap:=h4 }) (ch:=[]) os ⟨λb o e n hb _=>?_,λb o e n hb _=>fr4 b o e hb,un.free,λb o e _=>?_,un.tups,un.frzs,un.tbls⟩ (λc o e=>?_) bare λb hb=>absurd hb (by simp)
 ·obtain⟨u,e1,e2⟩:=old b o e hb;have e3:=un.keep b o e n hb (by simp)
  rw[e1] at e3;cases e3;exact e2
 ·by_cases hb:b∈frs X.stack
  ·obtain⟨sl,e1⟩:=fr4 b o e hb;exact⟨_,e1⟩
  ·obtain⟨u,_,e2⟩:=old b o e hb;exact⟨u,e2⟩
 ·refine(hok c o e).f01 (λb u hb q=>?_) (λ_ q=>q) λ_ _ q=>q;have hbn:H' b≠none:=by
   rcases hb with rfl | hb
   ·rw[e];exact λz=>nomatch z
   ·rw[hb];exact λz=>nomatch z
  exact kB b _ (bB b u q (λhm=>hbn (frN b hm)) (.inr hbn))
theorem Inv.o71{h':ë}{m m':Str->Option Ã}{t':Nat}(I:Inv X pins σ H s)(hl:∀ (i:Nat) (x:Str) (v:V),X.N[i]?=some x->σ[i]?=some (some v)->Vis X.env.scope x->∃ u,RelV v u/\Look X.env s.heap m x u)
  (hn':h'.Ns X.env.locals m') (hs:Ø3 X.env.locals s.heap h') (hm:∀ (i:Nat) (x:Str),X.N[i]?=some x->m' x=m x):Inv X pins σ H { s with heap:=h',toks:=t' }:=by
 have oth:∀ b o,b≠X.env.locals->s.heap.get? b=some o->h'.get? b=some o:=λb o hb e=>(hs.2 b hb).trans e;have neL:∀ b o,X.s₀.heap.get? b=some o->b≠X.env.locals:=λb o e=>ä (Ø (á e) I.ok.above);have cel:∀ x c v,X.env.cells.lookup x=some c->s.heap.IsCell c v->h'.IsCell c v:=λx c v e ⟨o,ho,hd⟩=>⟨o,oth c o (I.cne x c e) ho,hd⟩;refine⟨I.ok,I.os,I.bare,⟨λb o e n hb hx=>oth b o (neL b o e) (I.base.keep b o e n hb hx),λb o e n hb hx=>?_,I.base.free,λb o e hx=>?_,I.base.tups,I.base.frzs,I.base.tbls⟩,⟨m',hn',λi x v e1 e2 e3=>?_⟩,λx c e=>?_,I.free,I.freeC,λp hp=>?_,λc o e=>?_,I.len⟩
 ·obtain⟨sl,e1⟩:=I.base.slot b o e n hb hx;exact⟨sl,oth b _ (neL b o e) e1⟩
 ·obtain⟨o',e1⟩:=I.base.there b o e hx;exact⟨o',oth b _ (neL b o e) e1⟩
 ·obtain⟨u,r,l⟩:=hl i x v e1 e2 e3;refine⟨u,r,?_⟩;rcases l with ⟨k,z⟩ | ⟨k,c,ec,z⟩
  ·exact .inl ⟨k,(hm i x e1).trans z⟩
  ·exact .inr ⟨k,c,ec,cel x c _ ec z⟩
 ·obtain⟨v,z⟩:=I.cell x c e;exact⟨v,cel x c v e z⟩
 ·obtain⟨e,n,ne,nf,d⟩:=I.pin p hp;exact⟨oth _ _ ne e,n,ne,nf,d⟩
 ·refine(I.hok c o e).f01 (λb u hb q=>oth b u (λz=>?_) q) (λ_ q=>q) λ_ _ q=>q;rcases hb with rfl | hb
  ·rw[z,I.free] at e;cases e
  ·rw[z,I.free] at hb;cases hb
theorem Inv.e92{T:Æ}{o:HO}(I:Inv X pins σ H s)(nT:H T=none)(n0:X.s₀.heap.get? T=none)(hL:T≠X.env.locals)(hc:∀ x c,X.env.cells.lookup x=some c->c≠T)(hp:∀ p∈X.pn++pins,p.1≠T)(new:h00 X.prog X.w (upd H T o) s.heap T o) :
  Inv X pins σ (upd H T o) s:=by
 have u:=I.base;refine⟨I.ok,I.os,I.bare,⟨u.keep,u.slot,λb ob e n hx=>?_,u.there,λb xs e=>?_,λb ob xs e=>?_,λb ps e=>?_⟩,I.loc,I.cell,?_,λx c e=>?_,λp hpp=>?_,λc v e=>?_,I.len⟩
 ·rw[a40 (λz=>by rw[z,n0] at e;cases e)];exact u.free b ob e n hx
 ·have z:=u.tups b xs e;rw[a40 (a70 z nT)];exact z
 ·have z:=u.frzs b ob xs e;rw[a40 (a70 z nT)];exact z
 ·obtain⟨more,z⟩:=u.tbls b ps e;exact⟨more,by rw[a40 (a70 z nT)];exact z⟩
 ·rw[a40 hL.symm];exact I.free
 ·rw[a40 (hc x c e)];exact I.freeC x c e
 ·obtain⟨e,n,r⟩:=I.pin p hpp;exact⟨e,by rw[a40 (hp p hpp)];exact n,r⟩
 ·by_cases hcT:c=T
  ·subst hcT;rw[b20] at e;cases e;exact new
  ·rw[a40 hcT] at e;exact(I.hok c v e).f01 (λ_ _ _ q=>q) (λb q=>by rw[a40 (a70 q nT)];exact q) λb xs q=>by rw[a40 (a70 q nT)];exact q
end
structure g81(P:Program)(w:World)(K:PySem.W.Frag)(mg:Str->Option Value)(base:Heap)(CX:CXT)(k:Nat)(f:Addr)(fd:FuncData)(ps:List Str)(sp:Shared->Sp):Prop where
 len:∀ s vs H Q E,sp s vs H Q E->vs.length=ps.length
 run:∀ (A:Around) (outer:List Env) (s:Shared) (H:Hp) (args:Args) (us:List Value) (vs:List V) (Q:VK) (E:XK),x40 k A->N31 P w K mg base A outer s H->BindsTo s fd args (ps.zip us)->Vals vs us->sp s vs H Q E ->
  codeAny (model P w) A (.call (.ref f) args) (CR CX outer P w H s Q E) s
theorem f02{CX:CXT}{P:ß}{w:ò}{K:Á}{mg:Str->Option Ã}{base:ë}{k:Nat}{f:Æ}{name qual:Str}{params:Í2}{body:List Å0}{scope:ú}{dV kV doc pm cdv ct oc:Ã}{an od:Option Æ}
  {osl:Array (Option Ã)}{N ps:List Str}{sp:Å->Sp} (lk:K.lookup f=some ⟨oc,od,.func (fnOf name qual params body scope dV kV doc pm an cdv ct),osl⟩) (hcd:PySem.W.codeIn K cdv qual=true) (S:j20 N ps scope)
  (len:∀ s vs H Q E,sp s vs H Q E->vs.length=ps.length)
  (hbody:∀ (A:ù) (outer:List Env) (s:Å) (H:Hp) (vs:List V) (Q:VK) (E:XK),x40 k (A.deeper (Î4 qual scope s.heap.objs.size f cdv))->sp s vs H Q E ->
   ∃ t,PSs (C90 CX P w K mg base N qual scope f cdv A outer s H E) body t/\t { nx:=λ_ H'=>Q .non H',rt:=Q } (start N vs) H) :
  g81 P w K mg base CX (k + 1) f (fnOf name qual params body scope dV kV doc pm an cdv ct) ps sp:=by
 refine⟨len,λA outer s H args us vs Q E hr e0 hb r hsp=>?_⟩;have hl:=len _ _ _ _ _ hsp;have KX:K.In s.heap:=e0.mod.kin.keeps λb o e=>(e0.bs b o e).1;have lim:s.heap.NoLimit:=e0.mod.nolimit.keeps λb o e=>(e0.bs b o e).1;have hkind:∀ y∈ps.zip us,scope.names.lookup y.1=some .local∨(scope.names.lookup y.1=some .cell/\((cellsFrom (s.heap.objs.size + 1) scope.names []).lookup y.1).isSome=true):=λ⟨n,v⟩ hy=>by
  rcases S.par n (of_mem_zip hy).1 with q | q
  ·exact .inl q
  ·exact .inr ⟨q,cellsFrom_some _ _ _ (.inl q)⟩
 refine codeAny_call_function hr.depth (KX _ _ lk) rfl S.co S.gen rfl (codeRec_of KX hcd) (hb _ _ _ _ ?_);refine Ý6 S.kind hkind λenv he s1 x=>?_;subst he;refine⟨lim.keeps x.toInCall.keep,codeAny_func ?_⟩;obtain⟨t,ht,hq⟩:=hbody A outer s H vs Q E (hr.deeper _) hsp;have I:Inv (C90 CX P w K mg base N qual scope f cdv A outer s H E) [] (start N vs) H s1:=M40 S hr.hd e0 hl r x;refine Â5 (ht [] s1 (start N vs) H _ I hq) (λfl s' hs=>?_) λe s' hs=>hs;have fin:∀ {σ':St}{H':Hp}{v:V}{u:Ã},Inv (C90 CX P w K mg base N qual scope f cdv A outer s H E) [] σ' H' s'->RelV v u->Q v H'->CE outer P w H s Q u s' :=
  λ{σ' H' v u} J rv q=>⟨v,H',J.os,J.bare,J.base,J.hok,rv,q⟩
 cases fl with
 |ret u =>
  obtain⟨v,σ',H',J,rv,q⟩:=hs;exact fin J rv q
 |next =>
  obtain⟨σ',H',J,q⟩:=hs;exact fin (v:=V.non) (u:=é) J rfl q
 |brk =>
  obtain⟨_,_,_,q⟩:=hs;exact ý q
 |cont =>
  obtain⟨_,_,_,q⟩:=hs;exact ý q
theorem Fun.okS{P:ß}{w:ò}{K:Á}{mg:Str->Option Ã}{base:ë}{x qual:Str}{st:Å0}{f:Æ}{fd:Ä8}{N ps:List Str}{k:Nat}{sp:Å->Sp}(F:Fun K x qual st f fd)(S:j20 N ps (b60 st))(len:∀ s vs H Q E,sp s vs H Q E->vs.length=ps.length)
  (hb:∀ (cdv:Ã) (A:ù) (outer:List Env) (s:Å) (H:Hp) (vs:List V) (Q:VK) (E:XK),x40 k (A.deeper (Î4 qual (b60 st) s.heap.objs.size f cdv))->sp s vs H Q E ->
   ∃ t,PSs (C90 CX0 P w K mg base N qual (b60 st) f cdv A outer s H E).nox (h80 st) t/\t { nx:=λ_ H'=>Q .non H',rt:=Q } (start N vs) H):g81 P w K mg base CX0 (k + 1) f fd ps sp:=by
 obtain⟨oc,od,kV,doc,pm,an,cdv,ct,osl,rfl,lk,hcd⟩:=F.ex;refine f02 lk hcd S len λA outer s H vs Q E hr hsp=>?_;obtain⟨t,h,q⟩:=hb cdv A outer s H vs Q E hr hsp;exact⟨t,h.nox,q⟩
def N50(P:ß)(w:ò)(K:Á)(mg:Str->Option Ã)(base:ë)(N:List Str)(qual:Str)(scope:ú)(f:Æ)(cd:Ã)(cl:List (Str × Æ))(A:ù)(outer:List Env)(s:Å)(H:Hp)(E:XK):Cx where
 prog:=P
 w:=w
 K:=K
 mg:=mg
 base:=base
 A:=A.deeper (envX qual scope s.heap.objs.size f cd cl)
 N:=N
 s₀:=s
 H₀:=H
 env:=envX qual scope s.heap.objs.size f cd cl
 outer:=outer
 stack:=envX qual scope s.heap.objs.size f cd cl::outer
 ex:=[]
 calm:=true
 fn:=λ_=>false
 pn:=[]
 xe:=λe s'=>Ó (Ü P w) (A.deeper (envX qual scope s.heap.objs.size f cd cl)) (leaving (envX qual scope s.heap.objs.size f cd cl) e) (λ_ s''=>CX1 P w outer H s E e s'') (λe' s''=>CX1 P w outer H s E e' s'') s'
section
variable {P:ß}{w:ò}{K:Á}{mg:Str->Option Ã}{base:ë}{N:List Str}{qual:Str}{scope:ú}{f:Æ}{cd:Ã}{cl:List (Str × Æ)}{A:ù}{outer:List Env}{s₀:Å}{H₀:Hp}{E:XK}
theorem Q61:Passes (CX1 P w) (N50 P w K mg base N qual scope f cd cl A outer s₀ H₀ E) E:=by
 intro pins σ H s e s' I h;obtain⟨a,cls,a0,H',B,rfl,os,bare,un,hok,fl,na,bB,he⟩:=h;show Ó _ _ (leaving _ _) _ _ _;refine wpAny_leaves_onW I.ok.frames rfl fl λh'' fl' sm=>?_;exact T50 (X:=N50 P w K mg base N qual scope f cd cl A outer s₀ H₀ E) (s':=s') rfl rfl rfl I os bare un hok bB na fl' sm he
structure g91(scope:Scope)(cl:List (Str × Addr))(N:List Str)(vs:List V)(H:Hp)(h:Heap):Prop where
 inj:∀ x y c,cl.lookup x=some c->cl.lookup y=some c->x=y
 has:∀ x,(scope.names.lookup x=some .cell∨scope.names.lookup x=some .free)->∃ c,cl.lookup x=some c
 cell:∀ x c,cl.lookup x=some c->∃ v,h.IsCell c v
 free:∀ x c,cl.lookup x=some c->H c=none
 val:∀ (i:Nat) (x:Str) (v:V),N[i]?=some x->vs[i]?=some v->scope.names.lookup x=some .free/\∃ c u,cl.lookup x=some c/\RelV v u/\h.IsCell c (some u)
 len:vs.length=N.length
theorem Q71{vs:List V}{h₁:ë}{t:Nat}(e0:N31 P w K mg base A outer s₀ H₀)(hd:A.handled=none)(hk:scope.kind=.function)(FR:g91 scope cl N vs H₀ s₀.heap)(hns:h₁.Ns s₀.heap.objs.size λ_=>none)
  (hkp:∀ b o,s₀.heap.get? b=some o->h₁.get? b=some o) :
  Inv (N50 P w K mg base N qual scope f cd cl A outer s₀ H₀ E) [] (vs.map some) H₀ { s₀ with heap:=h₁,toks:=t }:=by
 have noA:∀ b:Æ,b ∉ (N50 P w K mg base N qual scope f cd cl A outer s₀ H₀ E).ex:=λb z=>absurd (show b∈([]:List Æ) from z) (by simp)
 have cel:∀ c v,s₀.heap.IsCell c v->h₁.IsCell c v:=λc v ⟨o,ho,hd⟩=>⟨o,hkp c o ho,hd⟩;refine⟨⟨e0.mod,hk,rfl,rfl,Ì _,FR.inj,FR.has,(λ_ _ z=>nomatch z),(λ_=>hd),Ý5 e0.frames,.inr ⟨rfl,rfl⟩,λb z=>absurd z (noA b),e0.bs,e0.bsz,λb _ _=>noA b,λb z=>absurd z (noA b),e0.f11,e0.frf⟩,
  rfl,e0.bare,Un.kept hkp,⟨_,hns,λi x v h1 h2 h3=>?_⟩,λx c h=>?_,e0.hok.fresh (Ì _),FR.free,λp hp=>absurd (show p∈([]:List (Æ × Obj)) from hp) (by simp),e0.hok.kept hkp,?_⟩
 ·have hv:vs[i]?=some v:=by
   rw[à] at h2;cases e:vs[i]? with
   |none=>rw[e] at h2;cases h2
   |some a=>rw[e] at h2;cases h2;rfl
  obtain⟨k,c,u,ec,r,z⟩:=FR.val i x v h1 hv;exact⟨u,r,.inr ⟨.inr k,c,ec,cel c _ z⟩⟩
 ·obtain⟨v,z⟩:=FR.cell x c h;exact⟨v,cel c v z⟩
 ·rw[Ç];exact FR.len
end
def recAt(c:Æ)(qual:Str):ë->Prop:=λh=>h.CodeRec (.ref c) qual
theorem D90{c:Æ}{qual:Str}{h1 h2:ë}(h:recAt c qual h1)(k:∀ o,h1.get? c=some o->h2.get? c=some o):recAt c qual h2:=by
 obtain⟨c',oc,vs,tq,e,ho,hd,hq⟩:=h;cases e;exact⟨c,oc,vs,tq,rfl,k _ ho,hd,hq⟩
section
variable {P:ß}{w:ò}{K:Á}{mg:Str->Option Ã}{base:ë}{N:List Str}{qual:Str}{scope:ú}{f c':Æ}{cl:List (Str × Æ)}{s₀:Å}{H₀:Hp}{k:Nat}{pm ctv cls:Ã}{params:Í2}{body:Ñ}{vs:List V}
theorem g91.later{outer:List Env}{H:Hp}{s:Å}(FR:g91 scope cl N vs H₀ s₀.heap)(un:Un (frs outer) [] H₀ H s₀.heap s.heap):g91 scope cl N vs H s.heap:=by
 have cel:∀ x c v,cl.lookup x=some c->s₀.heap.IsCell c v->s.heap.IsCell c v:=λx c v e ⟨o,ho,hd⟩=>by
  obtain⟨sl,e1⟩:=un.any ho (FR.free x c e) (by simp)
  exact⟨_,e1,hd⟩
 refine⟨FR.inj,FR.has,λx c e=>?_,λx c e=>?_,λi x v h1 h2=>?_,FR.len⟩
 ·obtain⟨v,z⟩:=FR.cell x c e;exact⟨v,cel x c v e z⟩
 ·obtain⟨v,o,ho,_⟩:=FR.cell x c e;exact un.free c o ho (FR.free x c e) (by simp)
 ·obtain⟨k,c,u,ec,r,z⟩:=FR.val i x v h1 h2;exact⟨k,c,u,ec,r,cel x c _ ec z⟩
end
def Tab(H:Hp)(P:Æ)(qual:Str):Prop:=∃ ps:Array Ã,H P=some (.tbl ps)/\Ü4 ps.toList/\∀ pos c,Ö9 pos ps.toList=some c->∃ c',c=.ref c'/\H c'=some (.ext (recAt c' qual))
theorem h01{line col:Int}{pos':Pos}{c c2:Ã}(tl:List Ã)(h:Ü4 tl)(e:Ö9 pos' (tl++[Ç8 line,Ç8 col,c])=some c2):c2=c∨Ö9 pos' tl=some c2:=by
 fun_induction Ü4 tl with
 |case1 =>
  simp only[Ï0,Ö9,Ç8] at e;split at e
  ·cases e;exact .inl rfl
  ·cases e
 |case2 a t b u x rest ih =>
  simp only[List.cons_append,Ö9] at e ⊢;split at e
  ·rename_i hc;rw[if_pos hc];exact .inr e
  ·rename_i hc;rw[if_neg hc];exact ih h e
 |case3 tl h1 h2=>exact h.elim
theorem D71(hf:∀ y∈lsc.names,y.2=.free->∃ c,env.cells.lookup y.1=some c):∃ cl,closureFor lsc env=pure cl/\(∀ x c,cl.lookup x=some c->env.cells.lookup x=some c)/\∀ y∈lsc.names,y.2=.free->∃ c,cl.lookup y.1=some c:=by
 obtain⟨cl,e,h1,_,h3⟩:=G90 env lsc.names [] hf (λx c z=>by simp at z)
 refine⟨cl,?_,h1,h3⟩;unfold closureFor
 first
  |(rw[show(forIn lsc.names ([]:List (Str × Æ)) _:Sem _)=_ from e];rfl)
  |(simp only[bind_pure];exact e)
structure I30(P:Addr)(H H':Hp):Prop where
 same:∀ b o,b≠P->H b=some o->H' b=some o
section
variable {X:Cx}{pins:List (Æ × Obj)}{σ:St}{H:Hp}{s:Å}{c P:Æ}{qual:Str}{params:Í2}{body:Ñ}{lsc:ú}{lpos:Pos}{A:ù}{Q:Ã->Å->Prop}{E:Ã->Å->Prop}
theorem D81(I:Inv X pins σ H s)(hdef:defaultsOf params X.env=([],[]))(hcode:X.env.code=.ref c)(hhd:Ä0 X.K c P=true)(TB:Tab H P qual)(hqu:X.env.qual++"<lambda>"=qual)
  (hbm:∃ bm ob,X.mg "__builtins__"=some (.ref bm)/\bm≠Ì8/\X.base.get? bm=some ob/\ob.cls=.type "module"/\ob.dict=some Ì8/\ob.data=.plain)
  (hfr:∀ y∈lsc.names,y.2=.free->∃ c,X.env.cells.lookup y.1=some c)
  (k:∀ (cl:List (Str × Æ)) (f c':Æ) (pm ctv:Ã) (h2:ë) (tk:Tok) (H2:Hp),(∀ x c,cl.lookup x=some c->X.env.cells.lookup x=some c)->(∀ y∈lsc.names,y.2=.free->∃ c,cl.lookup y.1=some c) ->
   Inv X pins σ H2 { s with heap:=h2,toks:=tk }->Tab H2 P qual->I30 P H H2->(∃ o,h2.get? f=some o/\o.data=.func (kla_fn "<lambda>" qual params body lsc cl pm (.ref c') ctv))->H2 f=none->H2 c'=some (.ext (recAt c' qual))->s.heap.objs.size<=f ->
   Q (.ref f) { s with heap:=h2,toks:=tk }):Ó (Ü X.prog X.w) A (eval (.Lambda params body lsc lpos) X.env) Q E s:=by
 refine PySem.W.kla_eval hdef ?_;rw[hqu];obtain⟨cl,ecl,cl1,cl2⟩:=D71 hfr;obtain⟨ps,hP,ht,hall⟩:=TB;have hPt:s.heap.get? P=some (Ç5 ps):=I.hok P _ hP;have hg:=I.mod.glob.keeps I.bk;have bsN:∀ b o,X.base.get? b=some o->b≠P:=λb o e z=>by have:=(I.bs b o e).2;rw[z,hP] at this;cases this
 have hgP:æ≠P:=by obtain⟨o,_,_,e,_⟩:=I.mod.glob;exact bsN _ o e
 obtain⟨bm,ob,b1,b2,b3,b4,b5,b6⟩:=hbm;have hbGl:bm≠mainGlobals:=λq=>by
  obtain⟨o,es,ep,e,hd,_⟩:=I.mod.glob;rw[q,e] at b3;(cases b3;rw[hd] at b6;cases b6)
 have BA:s.heap.BuiltinsAt X.mg P:=⟨bm,ob,b1,b2,hbGl,bsN _ _ b3,I.bk _ _ b3,b4,b5,b6⟩;have CH:=codeHd_of_K I.kIn hhd;cases hca:Ö9 lpos ps.toList with
 |some cv =>
  obtain⟨c',rfl,hc'⟩:=hall lpos cv hca;refine PySem.W.kla_makeFunctionHit ecl I.ok.glob hg hcode CH hPt ht hca BA λctv h' tk hk hsz=>?_;have kp:∀ b o,s.heap.get? b=some o->(h'.push { cls:=.type "function",data:=.func (kla_fn "<lambda>" qual params body lsc cl ((X.mg "__name__").getD .none) (.ref c') ctv) }).get? b=some o:=λb o e=>Ä _ (hk b o e);have nf:H h'.objs.size=none:=I.hok.fresh hsz;exact k cl h'.objs.size c' _ ctv _ tk H cl1 cl2 (I.kept (t':=tk) kp) ⟨ps,hP,ht,hall⟩ ⟨λ_ _ _ e=>e⟩ ⟨_,Ï _ rfl,rfl⟩ nf hc' hsz
 |none =>
  refine PySem.W.kla_makeFunction ecl I.ok.glob hg hcode CH hPt ht hca hgP BA λc' ctv h' tk hx hge hlt hrec htb=>?_;have lP:P < s.heap.objs.size:=á hPt;have cP:c'≠P:=Ï1 (Ø lP hge);have nC:H c'=none:=I.hok.fresh hge;have kp:∀ b o,b≠P->s.heap.get? b=some o->(h'.push (kla_obj "<lambda>" qual params body lsc cl ((X.mg "__name__").getD .none) c' ctv)).get? b=some o:=λb o hb e=>Ä _ (hx b o hb e);have tb:(h'.push (kla_obj "<lambda>" qual params body lsc cl ((X.mg "__name__").getD .none) c' ctv)).get? P=some (Ç5 (ps++#[Ç8 lpos.line,Ç8 lpos.col,.ref c'])):=Ä _ htb;have rc:recAt c' qual (h'.push (kla_obj "<lambda>" qual params body lsc cl ((X.mg "__name__").getD .none) c' ctv)):=D90 hrec λo q=>Ä _ q;have h2P:upd (upd H P (.tbl (ps++#[Ç8 lpos.line,Ç8 lpos.col,.ref c']))) c' (.ext (recAt c' qual)) P=some (.tbl (ps++#[Ç8 lpos.line,Ç8 lpos.col,.ref c'])):=by rw[a40 cP.symm];exact b20
  have oth:∀ b,b≠P->b≠c'->upd (upd H P (.tbl (ps++#[Ç8 lpos.line,Ç8 lpos.col,.ref c']))) c' (.ext (recAt c' qual)) b=H b:=λb h1 h2=>by rw[a40 h2,a40 h1]
  have neC:∀ b o,H b=some o->b≠c':=λb o e=>a70 e nC;have I2:Inv X pins σ (upd (upd H P (.tbl (ps++#[Ç8 lpos.line,Ç8 lpos.col,.ref c']))) c' (.ext (recAt c' qual))) { s with heap:=h'.push (kla_obj "<lambda>" qual params body lsc cl ((X.mg "__name__").getD .none) c' ctv),toks:=tk }:=by
   have nP:∀ b,H b=none->b≠P:=λb n z=>by rw[z,hP] at n;cases n
   refine I.step (g':=s.gens) (d':=s.drawn) (ch:=[]) (λb hb=>absurd hb (by simp)) (λb o _ _ _ e n=>kp b o (nP b n) e) (λb o _ _ _ e n=>⟨o.slots,kp b o (nP b n) e⟩) (λb o _ e n=>?_) (λb o _ e=>?_) (λb xs e=>?_) (λb o u e=>?_) (λb qs e=>?_) (λm hm=>?_) (λb u e=>?_) I.bare
   ·rw[oth b (nP b n) (ä (Ø (á e) hge))];exact n
   ·by_cases hb:b=P
    ·subst hb;exact⟨_,tb⟩
    ·exact⟨o,kp b o hb e⟩
   ·rw[oth b (λz=>by rw[z,hP] at e;cases e) (neC b _ e)];exact e
   ·rw[oth b (λz=>by rw[z,hP] at e;cases e) (neC b _ e)];exact e
   ·by_cases hb:b=P
    ·subst hb;rw[hP] at e;cases e;exact⟨_,h2P⟩
    ·exact⟨#[],by rw[oth b hb (neC b _ e),e];simp⟩
   ·obtain⟨o,es,ep,ho,r⟩:=hm;exact⟨o,es,ep,kp _ o (nP _ I.free) ho,r⟩
   ·by_cases hbc:b=c'
    ·subst hbc;rw[b20] at e;cases e;obtain⟨_,oc,_,_,e1,e2,_⟩:=id rc;cases e1;exact⟨rc,⟨oc,e2⟩,λh1 h2 p kk=>D90 p kk⟩
    ·by_cases hb:b=P
     ·subst hb;rw[h2P] at e;cases e;exact tb
     ·rw[oth b hb hbc] at e;refine(I.hok b u e).f01 (λb2 u2 hb2 q=>kp b2 u2 (λz=>?_) q) (λb2 q=>?_) λb2 xs q=>?_
      ·rcases hb2 with y | y
       ·exact hb (y.symm.trans z)
       ·rw[z,hP] at y;cases y
      ·rw[oth b2 (λz=>by rw[z,hP] at q;cases q) (neC b2 _ q)];exact q
      ·rw[oth b2 (λz=>by rw[z,hP] at q;cases q) (neC b2 _ q)];exact q
  have lf:s.heap.objs.size<=h'.objs.size:=Í6 (Ã0 hge hlt);refine k cl h'.objs.size c' _ ctv _ tk _ cl1 cl2 I2 ⟨_,h2P,?_,λpos cc e=>?_⟩ ⟨λb o hb e=>by rw[oth b hb (neC b _ e)];exact e⟩ ⟨_,Ï _ rfl,rfl⟩ ?_ b20 lf
  ·rw[Array.toList_append];exact TriplesOk_snoc _ _ _ _ ht
  ·rw[Array.toList_append] at e;rcases h01 _ ht e with z | z
   ·exact⟨c',z,b20⟩
   ·obtain⟨c2,rfl,hc2⟩:=hall pos cc z;exact⟨c2,rfl,by rw[oth c2 (λy=>by rw[y,hP] at hc2;cases hc2) (neC c2 _ hc2)];exact hc2⟩
  ·rw[oth _ (Ï1 (Ø lP lf)) (Ï1 hlt)];exact I.hok.fresh lf
end
def BMain(mg:Str->Option Ã)(h:ë):Prop:=∃ bm ob,mg "__builtins__"=some (.ref bm)/\bm≠Ì8/\h.get? bm=some ob/\ob.cls=.type "module"/\ob.dict=some Ì8/\ob.data=.plain
theorem f12{P:ß}{w:ò}{X:Cx}:Passes (CX1 P w) X (λ_ _ _=>False):=λ_ _ _ _ _ _ _ h=>by
 obtain⟨_,_,_,_,_,_,_,_,_,_,_,_,_,e⟩:=h;exact e.elim
theorem Tab.same{H H':Hp}{P:Æ}{q:Str}(t:Tab H P q)(s:a30 H H'):Tab H' P q:=by
 obtain⟨ps,e,tr,h⟩:=t;refine⟨ps,s _ _ e,tr,λpos c hc=>?_⟩;obtain⟨c',e1,e2⟩:=h pos c hc;exact⟨c',e1,s _ _ e2⟩
def FnL(P:ß)(w:ò)(H₀:Hp)(s₀:Å)(f:Æ)(fd:Ä8):Prop:=∀ (outer:List Env) (s:Å) (H:Hp),Un (frs outer) [] H₀ H s₀.heap s.heap->a30 H₀ H->HOk P w H s.heap->∃ c d sl,s.heap.get? f=some ⟨c,d,.func fd,sl⟩
theorem FnL.new{P:ß}{w:ò}{H₀:Hp}{s₀:Å}{f:Æ}{fd:Ä8}(ho:∃ o,s₀.heap.get? f=some o/\o.data=.func fd)(nf:H₀ f=none):FnL P w H₀ s₀ f fd:=λouter s H un _ _=>by
 obtain⟨⟨c,d,dt,sl⟩,e,hd⟩:=ho;have hd:dt=.func fd:=hd;subst hd;obtain⟨sl,h⟩:=un.any e nf (by simp)
 exact⟨_,_,sl,h⟩
structure N60(P:Program)(w:World)(K:PySem.W.Frag)(mg:Str->Option Value)(base:Heap)(k:Nat)(f:Addr)(H₀:Hp)(s₀:Shared)(cls:Value)(RR:Hp->Prop):Prop where
 fn:∃ fd,FnL P w H₀ s₀ f fd
 run:∀ (A:Around) (outer:List Env) (s:Shared) (H:Hp),x40 k A->N31 P w K mg base A outer s H->Un (frs outer) [] H₀ H s₀.heap s.heap->a30 H₀ H ->
  codeAny (model P w) A (.call (.ref f) ⟨[],[]⟩) (CR (CX1 P w) outer P w H s (λ_ _=>False) λc _ H'=>c=cls/\RR H') s
def u82(X:Cx)(i j:Nat)(f C:Æ)(RR:Hp->Prop):TS:=λD σ H=>σ[i]?=some (some (.ref f))/\a30 X.H₀ H/\∀ a H',RR H'->H' a=none->D.nx (σ.set j (some (.ref a))) (upd H' a (.ext (excAt a C)))
section
variable {X:Cx}{k i j:Nat}{f C D:Æ}{x y z n:Str}{p1 p2 p3 p4 p5 p6 p7 p8 p9:Pos}
theorem o81(hx0:X.ex=[])(hS:X.stack=X.env::X.outer)(hf:X.env.frame=some X.env.locals)(hr:x40 k X.A)(th:N60 X.prog X.w X.K X.mg X.base k f X.H₀ X.s₀ (.ref C) RR)
  (hy:X.N[i]?=some y) (vy:Vis X.env.scope y) (dy:(y == ("__debug__":Str))=false) (cy:(y == ("__classdict__":Str))=false)
  (hg:Gl X x) (hm:X.mg x=some (.ref D)) (dx:(x == ("__debug__":Str))=false) (he:PySem.W.exmOne X.K (.ref C) (.ref D)=some true)
  (hn:X.env.kindOf n=some .local) (nN:n ∉ X.N) (dn:(n == ("__debug__":Str))=false) (hN:X.N.Nodup) (hz:X.N[j]?=some z) (lz:Loc X.env.scope z) (hfn:X.fn z=true) :
  PS X (.Try [.Expr (.Call (.Name y p1) [] [] p2) p3] [.ExceptHandler (some (.Name x p4)) (some n) [.Assign [.Name z p5] (.Name n p6) p7] p8] [] [] p9) (u82 X i j f C RR):=by
 intro pins s σ H Dd I h;obtain⟨eσ,sH,q⟩:=h;have U0:Un (frs X.stack) [] X.H₀ H X.s₀.heap s.heap:=by
  have u:=I.base;rw[hx0] at u;exact u.mono (λb hb=>by rw[hS];unfold frs;rw[À7,hf];exact Ê _ hb) λb hb=>hb
 obtain⟨fd,hfd⟩:=th.fn;obtain⟨c0,d0,sl,hof⟩:=hfd X.stack s H U0 sH I.hok;have hkind:(X.env.scope.kind == .class || (X.env.scope.kind == .module&&X.env.locals != X.env.globals))=false:=by rw[I.ok.kind];rfl
 refine wpAny_Try_except (Ó1 ?_);refine wpAny_Expr_any ?_ I.quiet rfl;refine Ê6 ?_;have ld:∀ {Q:Ã->Å->Prop}{E:Ã->Å->Prop},Q (.ref f) s->Ó (Ü X.prog X.w) X.A (eval (.Name y p1) X.env) Q E s:=λ{Q E} hq=>by
  obtain⟨m,hnm,hl⟩:=I.loc;obtain⟨u,r,l⟩:=hl i y _ hy eσ vy;cases (show u=Á3 f from r);rcases l with ⟨hk,hv⟩ | ⟨hk,c,hc,hcell⟩
  ·exact Ì7 (Í4 I.ok.kind hk hnm hv hq) dy
  ·rcases hk with hk | hk
   ·exact Ì7 (wpAny_loadName_cell I.ok.kind hk hc hcell hq) dy
   ·exact Ì7 (wpAny_loadName_free I.ok.kind hk hc hcell hq cy) dy
 refine ld ?_;refine PySem.W.callWith_of (P:=λh=>h.get? f=some ⟨c0,d0,.func fd,sl⟩) rfl (λh e=>⟨.frame,.inl rfl,?_⟩) (evalArgs_nil3 ⟨hof,?_⟩)
 ·exact(Í0 (part:=none) e).andThen .now
 refine Ù6 (Ë7 (th.run X.A X.stack s H hr I.t12 U0 sH) λr s1 hq=>?_);cases r with
 |ok fl =>
  cases fl with
  |ret u=>obtain⟨_,_,_,_,_,_,_,z⟩:=hq;exact z.elim
  |next=>exact ý hq
  |brk=>exact ý hq|cont=>exact ý hq
 |error e =>
  obtain⟨a,cls,a0,H1,B,rfl,os1,bare1,un,hok,fl,na,bB,rfl,s1H⟩:=hq;have nA:s.heap.get? a=none:=by
   cases ea:s.heap.get? a with
   |none=>rfl
   |some o =>
    exfalso;obtain⟨oe,vs,hoe,_,hde,_⟩:=fl.first;by_cases hb:a∈frs X.stack
    ·obtain⟨sl',e1⟩:=un.slot a o ea (I.u50 a hb) hb (by simp)
     obtain⟨_,o',ho',hd'⟩:=I.stack.mem hb;rw[ea] at ho';cases ho';rw[hoe] at e1;cases e1;exact hd' vs hde
    ·have:=bB a oe hoe hb (.inl ⟨o,ea⟩);rw[fl.2.1] at this;cases this
  have n0:X.s₀.heap.get? a=none:=by
   cases ea:X.s₀.heap.get? a with
   |none=>rfl
   |some o =>
    obtain⟨o',e1⟩:=U0.there a o ea (by simp)
    rw[nA] at e1;cases e1
  have aL:a≠X.env.locals:=λz=>by
   obtain⟨m,⟨o,_,_,ho,_⟩,_⟩:=I.loc;rw[z,ho] at nA;cases nA
  have aC:∀ x c,X.env.cells.lookup x=some c->c≠a:=λx c e z=>by
   obtain⟨v,o,ho,_⟩:=I.cell x c e;rw[z,nA] at ho;cases ho
  have aP:∀ p∈X.pn++pins,p.1≠a:=λp hp z=>by
   have:=(I.pin p hp).1;rw[z,nA] at this;cases this
  refine wpAny_looks_onW (I.ok.frames.trans (by rw[hS])) hf (by rw[← hS];exact fl) λh2 held2 sm2=>?_
  refine wpAny_landsW held2 λh3 fl3 sm3=>?_;have I3:Inv X pins σ H1 { s1 with heap:=h3 }:=K01 I os1 bare1 un hok bB fl3.1 (sm2.trans sm3);have at3:excAt a C h3:=by obtain⟨oe,e1,e2⟩:=fl3.there;exact⟨oe,e1,e2⟩
  refine wpAny_handleBy_cons (codeAny_handlers_test ?_) (λz=>nomatch z);refine Í8 I3.ok.kind hg (Ý0 (by rw[I3.ok.glob];exact I3.mod.glob.keeps I3.bk) hm ?_) dx
  refine(PySem.W.exm_one (h:=h3) I3.kIn at3.ty he).here ?_;refine codeAny_handlers_suite_as (lands_againW fl3 λh4 fl4 sm4=>?_);have I4:Inv X pins σ H1 { s1 with heap:=h4 }:=K01 I os1 bare1 un hok bB fl4.1 ((sm2.trans sm3).trans sm4);have at4:excAt a C h4:=by obtain⟨oe,e1,e2⟩:=fl4.there;exact⟨oe,e1,e2⟩
  obtain⟨m4,hn4,hl4⟩:=id I4.loc;refine Õ0 hn hn4 (λh5 hn5 hs5=>?_) hkind;have offN:∀ (i:Nat) (x:Str),X.N[i]?=some x->x≠n:=λi x e z=>nN (by rw[← z];exact ì e)
  have I5:Inv X pins σ H1 { s1 with heap:=h5,toks:=s1.toks + 1 }:=Inv.o71 (s:={ s1 with heap:=h4 }) I4 hl4 hn5 hs5 λi x e=>if_neg (offN i x e);refine Ó1 (wpAny_Assign_Name ?_ rfl);refine Ì7 (Í4 I.ok.kind hn hn5 (if_pos rfl) ?_) dn;refine z00 (v:=.ref a) I5 hN hz lz rfl (λs6 I6 hsame=>?_) (.inl hfn);refine Î2 ?_;show Ó _ _ (do bindName X.env n .none;unbindBehindTheSuite X.env n p8) _ _ _;obtain⟨m6,hn6,hl6⟩:=id I6.loc;refine wpAny_nameGoes_keeps hn hn6 hkind λh7 v7 hn7 hs7=>?_;have I7:=Inv.o71 (t':=s6.toks + 1) I6 hl6 hn7 hs7 λi x e=>if_neg (offN i x e);have at7:excAt a C h7:=by
   obtain⟨oe,e1,e2⟩:=at4;obtain⟨b6,hb6,hor⟩:=hsame;have e5:h5.get? a=some oe:=(hs5.2 a aL).trans e1;have e6:s6.heap.get? a=some oe:=(hb6.2 a (λz=>by
    rcases hor with y | y
    ·exact aL (z.trans y)
    ·exact aC _ _ y z.symm)).trans e5
   exact⟨oe,(hs7.2 a aL).trans e6,e2⟩
  have nT:H1 a=none:=na;have I8:=Inv.e92 (T:=a) (o:=.ext (excAt a C)) I7 nT n0 aL aC aP ⟨at7,by obtain⟨oe,e1,_⟩:=at7;exact⟨oe,e1⟩,λh1 h2 p kk=>g61 p kk⟩
  exact⟨_,_,I8,q a H1 s1H na⟩
end
section
variable {P:ß}{w:ò}{K:Á}{mg:Str->Option Ã}{base:ë}{N:List Str}{qual:Str}{scope:ú}{f c':Æ}{cl:List (Str × Æ)}{s₀:Å}{H₀:Hp}{k:Nat}{pm ctv cls:Ã}{params:Í2}{body:Ñ}{vs:List V}
theorem h31{RR:Hp->Prop}(hf:FnL P w H₀ s₀ f (kla_fn "<lambda>" qual params body scope cl pm (.ref c') ctv))(hc:H₀ c'=some (.ext (recAt c' qual)))
  (hk:scope.kind=.function) (hco:scope.isCoroutine=false) (hgen:scope.isGenerator=false) (hcell:∀ x∈scope.names,x.2≠.cell)
  (hb:bindArgs (kla_fn "<lambda>" qual params body scope cl pm (.ref c') ctv) ⟨[],[]⟩=pure []) (FR:g91 scope cl N vs H₀ s₀.heap)
  (hbody:∀ (A:ù) (outer:List Env) (s:Å) (H:Hp),x40 k (A.deeper (envX qual scope s.heap.objs.size f (.ref c') cl))->a30 H₀ H ->
   ∃ t,PE (N50 P w K mg base N qual scope f (.ref c') cl A outer s H λc _ H'=>c=cls/\RR H') body t/\t (vs.map some) H λ_ _=>False) :
  N60 P w K mg base (k + 1) f H₀ s₀ cls RR:=by
 refine⟨⟨_,hf⟩,λA outer s H hr e0 un sm=>?_⟩;obtain⟨c0,d0,sl,hof⟩:=hf outer s H un sm e0.hok;have hrec:s.heap.CodeRec (.ref c') qual:=(e0.hok c' _ (sm _ _ hc)).1;have lim:s.heap.NoLimit:=e0.mod.nolimit.keeps λb o e=>(e0.bs b o e).1;refine PySem.W.kla_callFunE hr.depth hof rfl hco hgen rfl hrec ?_;rw[hb];refine Ë (Ö3 hcell (λy hy=>absurd hy (by simp)) (λh₁ hns hsb=>⟨lim.fresh _ hsb,?_⟩) hk)
 show Í3 _ _ (.expr body (envX qual scope s.heap.objs.size f (.ref c') cl)) _ _;have hkeep1:∀ b o,s.heap.get? b=some o->h₁.get? b=some o:=λb o e=>hsb.extBut b o (ä (á e)) (Ä _ e);obtain⟨t,ht,hq⟩:=hbody A outer s H (hr.deeper _) sm;have I:Inv (N50 P w K mg base N qual scope f (.ref c') cl A outer s H λc _ H'=>c=cls/\RR H') [] (vs.map some) H { s with heap:=h₁,toks:=s.toks + 0 }:=Q71 e0 hr.hd hk (FR.later un) hns hkeep1;refine PySem.W.kla_codeExpr (Â5 (ht [] _ _ H _ I hq) (λv s' hv=>?_) λe s' he=>he);obtain⟨_,_,_,_,z⟩:=hv;exact z.elim
end
def u92(X:Cx)(P:Æ)(qual:Str)(N:List Str)(lsc:ú)(body:Ñ)(k:Nat)(cls:Ã)(RR:Hp->Hp->Prop)(sp:Å->Sp):TE:=λσ H Q=>Tab H P qual/\∃ vs:List V,vs.length=N.length /\
 (∀ (i:Nat) (x:Str) (v:V),N[i]?=some x->vs[i]?=some v->∃ j:Nat,X.N[j]?=some x/\σ[j]?=some (some v)) /\
 ∀ H2,I30 P H H2->Tab H2 P qual ->
  (∀ (f c':Æ) (cl:List (Str × Æ)) (A:ù) (outer:List Env) (s:Å) (H3:Hp),x40 k (A.deeper (envX qual lsc s.heap.objs.size f (.ref c') cl))->a30 H2 H3 ->
   ∃ t,PE (N50 X.prog X.w X.K X.mg X.base N qual lsc f (.ref c') cl A outer s H3 λc _ H'=>c=cls/\RR H2 H') body t/\t (vs.map some) H3 λ_ _=>False) /\
  ∀ (s2:Å) (f:Æ),N60 X.prog X.w X.K X.mg X.base (k + 1) f H2 s2 cls (RR H2)->sp s2 [.ref f] H2 Q λ_ _ _=>False
section
variable {X:Cx}{c P f:Æ}{fd:Ä8}{qual g par:Str}{N:List Str}{params:Í2}{body:Ñ}{lsc:ú}{lpos p pos:Pos}{k kr:Nat}{cls:Ã}{sp:Å->Sp}
theorem T60{RR:Hp->Hp->Prop}(F:g81 X.prog X.w X.K X.mg X.base CX0 kr f fd [par] sp)(hr:x40 kr X.A)(hg:Gl X g)(hm:X.mg g=some (.ref f))(hk:Ò4 X.K (.ref f)=true)(hb:Binds X.K fd [par] [])
  (hcode:X.env.code=.ref c) (hhd:Ä0 X.K c P=true) (hqu:X.env.qual++"<lambda>"=qual)
  (hbm:∃ bm ob,X.mg "__builtins__"=some (.ref bm)/\bm≠Ì8/\X.base.get? bm=some ob/\ob.cls=.type "module"/\ob.dict=some Ì8/\ob.data=.plain)
  (hfr:∀ y∈lsc.names,y.2=.free->X.env.kindOf y.1=some .cell) (hnc:∀ y∈lsc.names,y.2≠.cell) (hNf:∀ x∈N,lsc.names.lookup x=some .free)
  (lk:lsc.kind=.function) (lco:lsc.isCoroutine=false) (lge:lsc.isGenerator=false) (hdef:defaultsOf params X.env=([],[]))
  (hbd:∀ (cl:List (Str × Æ)) (pm ctv:Ã) (c':Æ),bindArgs (kla_fn "<lambda>" qual params body lsc cl pm (.ref c') ctv) ⟨[],[]⟩=pure [])
  (hdb:(g == ("__debug__":Str))=false:=by decide) (he:û [.Lambda params body lsc lpos] X.env=[(false,eval (.Lambda params body lsc lpos) X.env)]:=by rfl) :
  PE X (.Call (.Name g p) [.Lambda params body lsc lpos] [] pos) (u92 X P qual N lsc body k cls RR sp):=by
 intro pins s σ H Q I h;obtain⟨TB,vs,hlen,hvs,q⟩:=h;refine Ê6 (G20 I hg hm ?_ hdb);refine callWith_K (h₀:=X.base) I.ok.mod.kin hk ?_ he rfl;rw[he];refine Õ6 (D81 I hdef hcode hhd TB hqu hbm (λy hy hf=>I.ok.has y.1 (.inl (hfr y hy hf))) λcl f' c' pm ctv h2 tk H2 cl1 cl2 I2 TB2 KB ho nf hc _=>?_);have FR:g91 lsc cl N vs H2 h2:=by
  refine⟨λx y c e1 e2=>I2.ok.inj x y c (cl1 x c e1) (cl1 y c e2),λx hx=>?_,λx c e=>I2.cell x c (cl1 x c e),λx c e=>I2.freeC x c (cl1 x c e),λi x v h1 h2=>?_,hlen⟩
  ·rcases hx with hx | hx
   ·exact absurd rfl (hnc _ (Á1 hx))
   ·exact cl2 _ (Á1 hx) rfl
  ·have hf:=hNf x (ì h1);have mem:=Á1 hf;have kc:X.env.kindOf x=some .cell:=hfr _ mem rfl;obtain⟨j,e1,e2⟩:=hvs i x v h1 h2;obtain⟨m,_,hl⟩:=I2.loc;obtain⟨u,r,l⟩:=hl j x v e1 e2 (Ô6 (Ñ1 kc));obtain⟨c2,ec2⟩:=cl2 _ mem rfl;refine⟨hf,c2,u,ec2,r,?_⟩;rcases l with ⟨kl,_⟩ | ⟨_,c3,ec3,z⟩
   ·rw[kc] at kl;cases kl
   ·have:=cl1 _ _ ec2;rw[ec3] at this;cases this;exact z
 obtain⟨q1,q2⟩:=q H2 KB TB2;have th:N60 X.prog X.w X.K X.mg X.base (k + 1) f' H2 { s with heap:=h2,toks:=tk } cls (RR H2):=h31 (s₀:={ s with heap:=h2,toks:=tk }) (.new ho nf) hc lk lco lge hnc (hbd cl pm ctv c') FR λA outer s H3 hr sm=>q1 f' c' cl A outer s H3 hr sm;refine Ï5 ⟨I2.kIn,?_⟩;have hsp:=q2 { s with heap:=h2,toks:=tk } f' th;refine Ù6 (Ë7 (F.run X.A X.stack { s with heap:=h2,toks:=tk } H2 ⟨[.ref f'],[]⟩ [.ref f'] [.ref f'] Q _ hr I2.t12 (hb _ [.ref f'] I2.kIn rfl) (.cons rfl .nil) hsp) λr s' hq=>?_);cases r with
 |error e=>exact ý hq
 |ok fl =>
  cases fl with
  |ret u=>exact I2.after hq|next=>exact ý hq
  |brk=>exact ý hq|cont=>exact ý hq
end
abbrev q72:List Str:=["_law_call","_law_error","_law_marks_here"]
abbrev f22:Scope:={ kind:=.function,names:=[(".0",.local),("_law_k",.local),("_law_marks_here",.free)],isGenerator:=false,isCoroutine:=false,more:=[] }
abbrev s00:Scope:={ kind:=.function,names:=[("_law_call",.local),("_law_error",.local),("e",.local),("_law_marks_here",.cell),("ChanceError",.globalImplicit),("isinstance",.globalImplicit),("NoWeb",.globalImplicit),("NoLot",.globalImplicit),("NoPlaces",.globalImplicit),("NoPlace",.globalImplicit),("NoTie",.globalImplicit),("NoChance",.globalImplicit),("NoChances",.globalImplicit),("NoPaper",.globalImplicit),("TooMany",.globalImplicit),("NoText",.globalImplicit),("NoLine",.globalImplicit),("NoDeed",.globalImplicit),("ValueError",.globalImplicit),("range",.globalImplicit)],isGenerator:=false,isCoroutine:=false,more:=[("fast",.str "_law_call"),("fast",.str "_law_error"),("fast",.str "e"),("fast",.str "_law_marks_here"),("fast",.str "_law_k")] }
def T70(n:Nat):List Stmt:=[.Assign [(.Name "_law_error" ⟨n,4,n,14⟩)] (.Constant .none 0 ⟨n,17,n,21⟩) ⟨n,4,n,21⟩,
   .Try [.Expr (.Call (.Name "_law_call" ⟨n + 2,8,n + 2,17⟩) [] [] ⟨n + 2,8,n + 2,19⟩) ⟨n + 2,8,n + 2,19⟩] [.ExceptHandler (some (.Name "ChanceError" ⟨n + 3,11,n + 3,22⟩)) (some "e") [.Assign [(.Name "_law_error" ⟨n + 4,8,n + 4,18⟩)] (.Name "e" ⟨n + 4,21,n + 4,22⟩) ⟨n + 4,8,n + 4,22⟩] ⟨n + 3,4,n + 4,22⟩] [] [] ⟨n + 1,4,n + 4,22⟩,
   .Assign [(.Name "_law_marks_here" ⟨n + 5,4,n + 5,19⟩)] (.List [(.Call (.Name "isinstance" ⟨n + 5,23,n + 5,33⟩) [(.Name "_law_error" ⟨n + 5,34,n + 5,44⟩),(.Name "NoWeb" ⟨n + 5,46,n + 5,51⟩)] [] ⟨n + 5,23,n + 5,52⟩),(.Call (.Name "isinstance" ⟨n + 5,54,n + 5,64⟩) [(.Name "_law_error" ⟨n + 5,65,n + 5,75⟩),(.Name "NoLot" ⟨n + 5,77,n + 5,82⟩)] [] ⟨n + 5,54,n + 5,83⟩),(.Call (.Name "isinstance" ⟨n + 5,85,n + 5,95⟩) [(.Name "_law_error" ⟨n + 5,96,n + 5,106⟩),(.Name "NoPlaces" ⟨n + 5,108,n + 5,116⟩)] [] ⟨n + 5,85,n + 5,117⟩)] ⟨n + 5,22,n + 5,118⟩) ⟨n + 5,4,n + 5,118⟩,
   .Assign [(.Name "_law_marks_here" ⟨n + 6,4,n + 6,19⟩)] (.BinOp (.Name "_law_marks_here" ⟨n + 6,22,n + 6,37⟩) .Add (.List [(.Call (.Name "isinstance" ⟨n + 6,41,n + 6,51⟩) [(.Name "_law_error" ⟨n + 6,52,n + 6,62⟩),(.Name "NoPlace" ⟨n + 6,64,n + 6,71⟩)] [] ⟨n + 6,41,n + 6,72⟩),(.Call (.Name "isinstance" ⟨n + 6,74,n + 6,84⟩) [(.Name "_law_error" ⟨n + 6,85,n + 6,95⟩),(.Name "NoTie" ⟨n + 6,97,n + 6,102⟩)] [] ⟨n + 6,74,n + 6,103⟩),(.Call (.Name "isinstance" ⟨n + 6,105,n + 6,115⟩) [(.Name "_law_error" ⟨n + 6,116,n + 6,126⟩),(.Name "NoChance" ⟨n + 6,128,n + 6,136⟩)] [] ⟨n + 6,105,n + 6,137⟩)] ⟨n + 6,40,n + 6,138⟩) ⟨n + 6,22,n + 6,138⟩) ⟨n + 6,4,n + 6,138⟩,
   .Assign [(.Name "_law_marks_here" ⟨n + 7,4,n + 7,19⟩)] (.BinOp (.Name "_law_marks_here" ⟨n + 7,22,n + 7,37⟩) .Add (.List [(.Call (.Name "isinstance" ⟨n + 7,41,n + 7,51⟩) [(.Name "_law_error" ⟨n + 7,52,n + 7,62⟩),(.Name "NoChances" ⟨n + 7,64,n + 7,73⟩)] [] ⟨n + 7,41,n + 7,74⟩),(.Call (.Name "isinstance" ⟨n + 7,76,n + 7,86⟩) [(.Name "_law_error" ⟨n + 7,87,n + 7,97⟩),(.Name "NoPaper" ⟨n + 7,99,n + 7,106⟩)] [] ⟨n + 7,76,n + 7,107⟩),(.Call (.Name "isinstance" ⟨n + 7,109,n + 7,119⟩) [(.Name "_law_error" ⟨n + 7,120,n + 7,130⟩),(.Name "TooMany" ⟨n + 7,132,n + 7,139⟩)] [] ⟨n + 7,109,n + 7,140⟩)] ⟨n + 7,40,n + 7,141⟩) ⟨n + 7,22,n + 7,141⟩) ⟨n + 7,4,n + 7,141⟩,
   .Assign [(.Name "_law_marks_here" ⟨n + 8,4,n + 8,19⟩)] (.BinOp (.Name "_law_marks_here" ⟨n + 8,22,n + 8,37⟩) .Add (.List [(.Call (.Name "isinstance" ⟨n + 8,41,n + 8,51⟩) [(.Name "_law_error" ⟨n + 8,52,n + 8,62⟩),(.Name "NoText" ⟨n + 8,64,n + 8,70⟩)] [] ⟨n + 8,41,n + 8,71⟩),(.Call (.Name "isinstance" ⟨n + 8,73,n + 8,83⟩) [(.Name "_law_error" ⟨n + 8,84,n + 8,94⟩),(.Name "NoLine" ⟨n + 8,96,n + 8,102⟩)] [] ⟨n + 8,73,n + 8,103⟩),(.Call (.Name "isinstance" ⟨n + 8,105,n + 8,115⟩) [(.Name "_law_error" ⟨n + 8,116,n + 8,126⟩),(.Name "NoDeed" ⟨n + 8,128,n + 8,134⟩)] [] ⟨n + 8,105,n + 8,135⟩)] ⟨n + 8,40,n + 8,136⟩) ⟨n + 8,22,n + 8,136⟩) ⟨n + 8,4,n + 8,136⟩,
   .If (.UnaryOp .Not (.Call (.Name "isinstance" ⟨n + 9,11,n + 9,21⟩) [(.Name "_law_error" ⟨n + 9,22,n + 9,32⟩),(.Name "ValueError" ⟨n + 9,34,n + 9,44⟩)] [] ⟨n + 9,11,n + 9,45⟩) ⟨n + 9,7,n + 9,45⟩) [.Return (some (.Constant .none 0 ⟨n + 10,15,n + 10,19⟩)) ⟨n + 10,8,n + 10,19⟩] [] ⟨n + 9,4,n + 10,19⟩,
   .Return (some (.ListComp (.Name "_law_k" ⟨n + 11,12,n + 11,18⟩) [{ target:=(.Name "_law_k" ⟨n + 11,23,n + 11,29⟩),iter:=(.Call (.Name "range" ⟨n + 11,33,n + 11,38⟩) [(.Constant (.int 12) 0 ⟨n + 11,39,n + 11,41⟩)] [] ⟨n + 11,33,n + 11,42⟩),ifs:=[(.Subscript (.Name "_law_marks_here" ⟨n + 11,46,n + 11,61⟩) (.Name "_law_k" ⟨n + 11,62,n + 11,68⟩) ⟨n + 11,46,n + 11,69⟩)],is_async:=0 }] f22 ⟨n + 11,11,n + 11,70⟩)) ⟨n + 11,4,n + 11,70⟩]
theorem f32:o11 f22 s00 q72 ["_law_k"] [("_law_marks_here",2)]=true:=by decide +kernel
theorem D91(K:Á)(hK:X.K=K:=by rfl):IxR X (C92 K):=by subst hK;exact S70
abbrev names12:List Str:=["NoWeb","NoLot","NoPlaces","NoPlace","NoTie","NoChance","NoChances","NoPaper","TooMany","NoText","NoLine","NoDeed"]
structure N70(K:PySem.W.Frag)(mg:Str->Option Value)(C:Addr)(j:Nat):Prop where
 cl:∀ (i:Nat) (x:Str),names12[i]?=some x->∃ Ci,mg x=some (.ref Ci)/\PySem.W.kitOne K (.ref C) (.ref Ci)=some (decide (i=j))
 lk:i00 K C
 hd:PySem.W.hasDictIn K C=true
 ve:PySem.W.kitOne K (.ref C) (.type "ValueError")=some true
 nv:mg "ValueError"=none
 ce:∃ D,mg "ChanceError"=some (.ref D)/\PySem.W.exmOne K (.ref C) (.ref D)=some true
 lt:j < 12
theorem N80:ð "ValueError"=some (.type "ValueError"):=by decide +kernel
theorem I40:ð "isinstance"=some (.builtin "isinstance"):=by decide +kernel
def Q81(P:ß)(w:ò)(K:Á)(mg:Str->Option Ã)(base:ë)(k:Nat):Å->Sp:=λs vs H Q _=>∃ (f C:Æ) (j:Nat) (RR:Hp->Prop),vs=[.ref f]/\N60 P w K mg base k f H s (.ref C) RR/\N70 K mg C j/\∀ l H1 H',RR H1->a30 H1 H'->H' l=none->Q (.ref l) (upd H' l (.lst [.int j]))
abbrev z90(j:Nat):List V:=[V.bl (decide (0=j)),.bl (decide (1=j)),.bl (decide (2=j))]++[.bl (decide (3=j)),.bl (decide (4=j)),.bl (decide (5=j))]++[.bl (decide (6=j)),.bl (decide (7=j)),.bl (decide (8=j))]++[.bl (decide (9=j)),.bl (decide (10=j)),.bl (decide (11=j))]
theorem E01{i j:Nat}(h:i < 12):atI (z90 j) (0 + (i:Int))=some (.bl (decide (i=j))):=by
 rw[Int.zero_add];refine u70 ?_;rw[show z90 j=(Ú 12).map λi=>V.bl (decide (i=j)) from rfl,à,Ô8 h];rfl
section
variable {P:ß}{w:ò}{K:Á}{mg:Str->Option Ã}{base:ë}
theorem scR:j20 q72 ["_law_call"] s00:=⟨rfl,rfl,rfl,by decide +kernel,rfl,by decide +kernel,by decide +kernel⟩
theorem ndR:(d40 ["_law_k"] [("_law_marks_here",2)]).Nodup:=by decide +kernel
def tIs(K:Á)(c:V)(cv:Ã):TE:=λσ H Q=>∃ (a C:Æ) (b:Bool),σ[1]?=some (some (.ref a))/\e82 H a C/\i00 K C/\PySem.W.hasDictIn K C=true/\Ì9 K (.ref C) cv=some b/\Q (.bl b) H
def K02(K:Á)(c0 c1 c2:Æ):TE:=λσ H Q=>∃ (a C:Æ) (b0 b1 b2:Bool),σ[1]?=some (some (.ref a))/\e82 H a C/\i00 K C/\PySem.W.hasDictIn K C=true/\Ì9 K (.ref C) (.ref c0)=some b0/\Ì9 K (.ref C) (.ref c1)=some b1/\Ì9 K (.ref C) (.ref c2)=some b2/\∀ l,H l=none->Q (.ref l) (upd H l (.lst [.bl b0,.bl b1,.bl b2]))
section
variable {X:Cx}{c0 c1 c2:Æ}{x x0 x1 x2:Str}{p p0 p1 p2 p3 q0 q1 q2 q3 r0 r1 r2 r3:Pos}
theorem E11(hN:X.N[1]?=some ("_law_error":Str))(hv:Vis X.env.scope "_law_error")(hi:Gl X "isinstance")(Ti:X.mg "isinstance"=none)(hc:PE X (.Name x p2) (tC c))(hcv:(∃ C,c=.ref C/\cv=.ref C)∨∃ T,c=.ty T/\cv=.type T):PE X (.Call (.Name "isinstance" p0) [.Name "_law_error" p1,.Name x p2] [] p3) (tIs X.K c cv) :=
 λpins s σ H Q I q=>by
  obtain⟨a,C,b,e,h1,h2,h3,h4,h5⟩:=q;have g:=y00 (p:=p0) (pos:=p3) g71 hi Ti I40 (e00 (m50 (i:=1) (pos:=p1) hN hv) (e00 hc r50));exact g pins s σ H Q I ⟨_,e,a,C,_,_,b,rfl,hcv,h1,h2,h3,h4,h5⟩
theorem Z60(hN:X.N[1]?=some ("_law_error":Str))(hv:Vis X.env.scope "_law_error")(hi:Gl X "isinstance")(Ti:X.mg "isinstance"=none)(g0:PE X (.Name x0 p2) (tC (.ref c0)))(g1:PE X (.Name x1 q2) (tC (.ref c1)))(g2:PE X (.Name x2 r2) (tC (.ref c2))) :
  PE X (.List [.Call (.Name "isinstance" p0) [.Name "_law_error" p1,.Name x0 p2] [] p3,.Call (.Name "isinstance" q0) [.Name "_law_error" q1,.Name x1 q2] [] q3,.Call (.Name "isinstance" r0) [.Name "_law_error" r1,.Name x2 r2] [] r3] p) (K02 X.K c0 c1 c2) :=
 λpins s σ H Q I q=>by
  obtain⟨a,C,b0,b1,b2,e,h1,h2,h3,k0,k1,k2,h5⟩:=q;exact J51 (e00 (E11 hN hv hi Ti g0 (.inl ⟨c0,rfl,rfl⟩)) (e00 (E11 hN hv hi Ti g1 (.inl ⟨c1,rfl,rfl⟩)) (e00 (E11 hN hv hi Ti g2 (.inl ⟨c2,rfl,rfl⟩)) r50))) pins s σ H Q I
   ⟨a,C,b0,e,h1,h2,h3,k0,a,C,b1,e,h1,h2,h3,k1,a,C,b2,e,h1,h2,h3,k2,z70 (by show 3<=64;decide),h5⟩
end
theorem f42{st:Å0}{f:Æ}{fd:Ä8}{k n:Nat}(F:Fun K "_law_refused" "_law_refused" st f fd)(es:b60 st=s00)(eb:h80 st=T70 n)(Ti:mg "isinstance"=none)(Tr:mg "range"=none):g81 P w K mg base CX0 (k + 1) f fd ["_law_call"] (Q81 P w K mg base k):=by
 refine F.okS (by rw[es];exact scR) (λs vs H Q E h=>?_) (λcdv A outer s H vs Q E hr h=>?_)
 ·obtain⟨f,C,j,RR,rfl,_⟩:=h;rfl
 ·obtain⟨g,C,j,RR,rfl,th,R,q⟩:=h;have hsc:=f32;rw[es] at hr;rw[es,eb];unfold T70;clear eb;obtain⟨c0,m0,k0⟩:=R.cl 0 _ rfl;obtain⟨c1,m1,k1⟩:=R.cl 1 _ rfl;obtain⟨c2,m2,k2⟩:=R.cl 2 _ rfl;obtain⟨c3,m3,k3⟩:=R.cl 3 _ rfl;obtain⟨c4,m4,k4⟩:=R.cl 4 _ rfl;obtain⟨c5,m5,k5⟩:=R.cl 5 _ rfl;obtain⟨c6,m6,k6⟩:=R.cl 6 _ rfl;obtain⟨c7,m7,k7⟩:=R.cl 7 _ rfl;obtain⟨c8,m8,k8⟩:=R.cl 8 _ rfl;obtain⟨c9,m9,k9⟩:=R.cl 9 _ rfl;obtain⟨c10,m10,k10⟩:=R.cl 10 _ rfl;obtain⟨c11,m11,k11⟩:=R.cl 11 _ rfl;obtain⟨D,mD,kD⟩:=R.ce;refine⟨_,i90 (r40 (i:=1) scR.nd rfl (Ñ1 rfl) j91)
   (i90 (o81 (i:=0) (j:=1) (f:=g) (C:=C) (D:=D) (k:=k) rfl rfl rfl hr th rfl (Ñ1 rfl) (-0) (-0) rfl mD (-0) kD rfl (by show ¬ (("e":Str)∈q72);decide +kernel) (-0) scR.nd rfl (Ñ1 rfl) rfl)
   (i90 (r40 (i:=2) scR.nd rfl (Ô6 rfl) (Z60 rfl (Ñ1 rfl) rfl Ti (f00 rfl m0 rfl) (f00 rfl m1 rfl) (f00 rfl m2 rfl)))
   (i90 (r40 (i:=2) scR.nd rfl (Ô6 rfl) (z91 l91 (pv 2) (Z60 rfl (Ñ1 rfl) rfl Ti (f00 rfl m3 rfl) (f00 rfl m4 rfl) (f00 rfl m5 rfl))))
   (i90 (r40 (i:=2) scR.nd rfl (Ô6 rfl) (z91 l91 (pv 2) (Z60 rfl (Ñ1 rfl) rfl Ti (f00 rfl m6 rfl) (f00 rfl m7 rfl) (f00 rfl m8 rfl))))
   (i90 (r40 (i:=2) scR.nd rfl (Ô6 rfl) (z91 l91 (pv 2) (Z60 rfl (Ñ1 rfl) rfl Ti (f00 rfl m9 rfl) (f00 rfl m10 rfl) (f00 rfl m11 rfl))))
   (i90 (b72 (J01 (k01 (E11 (cv:=.type "ValueError") rfl (Ñ1 rfl) rfl Ti (G30 (v:=.ty "ValueError") rfl R.nv N80 rfl) (.inr ⟨_,rfl,rfl⟩)))) (k31 (Y50 j91)) k21)
   (k31 (Y50 (m51 (own:=["_law_k"]) (capt:=[("_law_marks_here",2)]) rfl (by exact p20.of (scX:=s00) (N:=q72) rfl rfl hsc) (L70 rfl Tr (e00 Y30 r50))
    (λcl C s H fp=>k41 (i:=0) ndR rfl (Ñ1 rfl)) (λcl C s H fp=>m41 (k01 (N91 (D91 K) (pv 1) (pv 0) (λ_ _=>rfl)))) (λcl C s H fp=>pv 0)))))))))),?_⟩
  refine⟨rfl,a30.refl H,λa H1 s1 na=>?_⟩;have hX:e82 (upd H1 a (.ext (excAt a C))) a C:=b20;have keep:∀ {H'},a30 (upd H1 a (.ext (excAt a C))) H'->e82 H' a C:=λsm=>sm _ _ hX;refine⟨a,C,_,_,_,rfl,hX,R.lk,R.hd,k0,k1,k2,λl1 hl1=>?_⟩;have t1:=a30.new (.lst [.bl (decide (0=j)),.bl (decide (1=j)),.bl (decide (2=j))]) hl1;refine⟨_,rfl,a,C,_,_,_,rfl,keep t1,R.lk,R.hd,k3,k4,k5,λl2 hl2=>?_⟩;have t2:=a30.new (.lst [.bl (decide (3=j)),.bl (decide (4=j)),.bl (decide (5=j))]) hl2;refine⟨l1,l2,_,_,rfl,rfl,t2 _ _ b20,b20,z70 (by show 3 + 3<=64;decide),λl3 hl3=>?_⟩
  have t3:=t1.trans (t2.trans (a30.new (.lst ([.bl (decide (0=j)),.bl (decide (1=j)),.bl (decide (2=j))]++[.bl (decide (3=j)),.bl (decide (4=j)),.bl (decide (5=j))])) hl3));refine⟨_,rfl,a,C,_,_,_,rfl,keep t3,R.lk,R.hd,k6,k7,k8,λl4 hl4=>?_⟩;have t4:=a30.new (.lst [.bl (decide (6=j)),.bl (decide (7=j)),.bl (decide (8=j))]) hl4;refine⟨l3,l4,_,_,rfl,rfl,t4 _ _ b20,b20,z70 (by show 6 + 3<=64;decide),λl5 hl5=>?_⟩
  have t5:=t3.trans (t4.trans (a30.new (.lst ([.bl (decide (0=j)),.bl (decide (1=j)),.bl (decide (2=j))]++[.bl (decide (3=j)),.bl (decide (4=j)),.bl (decide (5=j))]++[.bl (decide (6=j)),.bl (decide (7=j)),.bl (decide (8=j))])) hl5));refine⟨_,rfl,a,C,_,_,_,rfl,keep t5,R.lk,R.hd,k9,k10,k11,λl6 hl6=>?_⟩;have t6:=a30.new (.lst [.bl (decide (9=j)),.bl (decide (10=j)),.bl (decide (11=j))]) hl6;refine⟨l5,l6,_,_,rfl,rfl,t6 _ _ b20,b20,z70 (by show 9 + 3<=64;decide),λl7 hl7=>?_⟩
  have t7:=t5.trans (t6.trans (a30.new (.lst (z90 j)) hl7));refine⟨a,C,_,rfl,keep t7,R.lk,R.hd,R.ve,_,rfl,H62 ?_⟩;refine⟨12,rfl,by decide,by decide,C91 (lo:=0) (n:=12) (λi ys H'=>a30 (upd H1 a (.ext (excAt a C))) H'/\H' l7=some (.lst (z90 j))/\ys=if j < i then [.int j] else []) (z70 (-0)) ⟨t7,b20,by rw[if_neg ∅]⟩ (λi ys H' p=>by rw[p.2.2];split <;> simp <;> omega) ?_ ?_⟩
  ·rintro i ys H' hi ⟨s8,h8,rfl⟩;refine gN ?_;refine⟨_,rfl,_,rfl,l7,z90 j,0 + (i:Int),.bl (decide (i=j)),rfl,rfl,SqL.of h8,E01 hi,_,rfl,?_⟩;refine H72 (λe=>?_) (λe=>?_)
   ·have ej:i=j:=of_decide_eq_true e;subst ej;refine⟨_,rfl,s8,h8,?_⟩;rw[if_neg ∅,if_pos ∅,Int.zero_add];rfl
   ·have ej:¬ i=j:=λz=>e (decide_eq_true z);refine⟨s8,h8,?_⟩;by_cases hj:j < i
    ·rw[if_pos hj,if_pos ∅]
    ·rw[if_neg hj,if_neg ∅]
  ·rintro ys H' p ⟨s8,_,rfl⟩ hp;rw[if_pos R.lt];exact q p H1 H' s1 ((a30.new _ na).trans s8) hp
end
abbrev Ke:=List Int × Æ × Ã
def K12(x:Ke):DictEntry:=⟨reduceHash (Ä2.Tuple.tupleHashOf (x.1.map hashInt)),.ref x.2.1,x.2.2⟩
def E21(d:Æ)(xs:List Ke)(h:ë):Prop:=∃ o es ep,h.get? d=some o/\o.ExactDict/\o.data=.dict es ep/\es.toList=xs.map K12/\(xs.map (·.1)).Nodup
def h41(K:Á)(H:Hp)(d:Æ)(kss:List (List Int)):Prop:=∃ xs:List Ke,H d=some (.ext (E21 d xs))/\(d == sysModules)=false/\(∀ x∈xs,SqT K H x.2.1 (x.1.map V.int))/\∀ ks,ks∈xs.map (·.1)↔ks∈kss
theorem h41.same{K:Á}{H H':Hp}{d:Æ}{kss:List (List Int)}(h:h41 K H d kss)(e:∀ b o,H b=some o->H' b=some o):h41 K H' d kss:=by
 obtain⟨xs,h1,h2,h3,h4⟩:=h;exact⟨xs,e _ _ h1,h2,λx hx=>a30.sqT e (h3 x hx),h4⟩
theorem items_int{P:ß}{w:ò}:∀ {ks:List Int}{its:List Ã},Vals (ks.map V.int) its->ItemsAre (Ñ9 P w) ks its
 |[],_,h=>by cases h;exact .nil
 |k::ks,_,h=>by
  cases h with
  |cons r t =>
   obtain⟨u,rfl⟩:=r;exact .cons (by show Ã.isInt k (.int k u)=true;simp[Ã.isInt]) (items_int t)
section
variable {X:Cx}{pins:List (Æ × Obj)}{σ:St}{H:Hp}{s:Å}
theorem key_is(I:Inv X pins σ H s){b:Æ}{ks:List Int}(h:SqT X.K H b (ks.map V.int)):Ú2 (Ñ9 X.prog X.w) s.heap ks b:=by
 obtain⟨its,rv,⟨o,e,c,n,d⟩,_⟩:=I.tuple h;exact⟨o,its.toArray,n,e,c,d,items_int rv⟩
theorem I50:∀ {xs:List Ke}{ks:List Int},(atKey xs ks).isSome=decide (ks∈xs.map (·.1))
 |[],_=>rfl
 |x::r,ks=>by
  have ih:=@I50 r ks;unfold atKey at ih ⊢;rw[List.find?_cons];by_cases h:x.1=ks
  ·simp[h]
  ·have h':¬ ks=x.1:=λz=>h z.symm;simp only[h,decide_false,ih,Ç0,È8,h',false_or]
def q82(o:Bool):CmpOp:=match o with
 |true=>.In|false=>.NotIn
def f52(K:Á)(o:Bool):R2:=λx y H Q=>∃ b ks d kss,x=.ref b/\y=.ref d/\SqT K H b (ks.map V.int)/\h41 K H d kss/\Q (.bl (decide (ks∈kss) == o)) H
theorem o91(o:Bool)(hu:X.A.units + 1 < Ä6):OpR X (ÿ (q82 o)) (f52 X.K o):=by
 intro pins s σ H x y v u Q I rx ry h;obtain⟨b,ks,d,kss,rfl,rfl,hb,⟨xs,h1,h2,h3,h4⟩,q⟩:=h;cases rx;cases ry;obtain⟨⟨ob,es,ep,e1,e2,e3,e4,e5⟩,_,_⟩:=I.hok d _ h1;have ek:decide (ks∈xs.map (·.1))=decide (ks∈kss):=decide_eq_decide.mpr (h4 ks);cases o with
 |true =>
  refine wpAny_in_heap (knd:=tupleKind (Ñ9 X.prog X.w)) (tupleKind_room_in1 hu) (key_is I hb) h2 ⟨ob,es,ep,e1,e2,e3,e4,λx hx=>key_is I (h3 x hx),e5⟩ ?_;rw[I50,ek];rw[show(decide (ks∈kss) == true)=decide (ks∈kss) by cases decide (ks∈kss) <;> rfl] at q
  exact⟨.bl _,H,I.tok _,rfl,q⟩
 |false =>
  refine wpAny_notIn_heap (knd:=tupleKind (Ñ9 X.prog X.w)) (tupleKind_room_in1 hu) (key_is I hb) h2 ⟨ob,es,ep,e1,e2,e3,e4,λx hx=>key_is I (h3 x hx),e5⟩ ?_;rw[I50,ek];rw[show(decide (ks∈kss) == false)=!decide (ks∈kss) by cases decide (ks∈kss) <;> rfl] at q
  exact⟨.bl _,H,I.tok _,rfl,q⟩
end
theorem T80{xs:List Ke}{k ks:List Int}{a:Æ}{v:Ã}:ks∈(Ú9 xs k a v).map (·.1)↔ks∈xs.map (·.1)∨ks=k:=by
 unfold Ú9;rw[I50];split
 ·rename_i h;have h:=of_decide_eq_true h;have e:(xs.map (putAt k v)).map (·.1)=xs.map (·.1):=by
   rw[Á7];exact Å8 λx _=>by show(putAt k v x).1=x.1;unfold putAt;split <;> rfl
  rw[e];exact⟨.inl,λz=>z.elim id λz=>z ▸ h⟩
 ·simp
theorem h51{xs:List Ke}{k:List Int}{a:Æ}{v:Ã}{x:Ke}(h:x∈Ú9 xs k a v):(∃ y∈xs,y.1=x.1/\y.2.1=x.2.1)∨(x.1=k/\x.2.1=a):=by
 unfold Ú9 at h;split at h
 ·obtain⟨y,hy,rfl⟩:=Î.mp h;exact .inl ⟨y,hy,by unfold putAt;split <;> rfl,by unfold putAt;split <;> rfl⟩
 ·rcases À5.mp h with h | h
  ·exact .inl ⟨x,h,rfl,rfl⟩
  ·cases í.mp h;exact .inr ⟨rfl,rfl⟩
theorem h61{xs:List Ke}{k:List Int}{a:Æ}{v:Ã}:(Ú9 xs k a v).length<=xs.length + 1:=by
 unfold Ú9;split <;> simp
section
variable {P:ß}{w:ò}{A:ù}{R:Result->Å->Prop}{s:Å}
theorem h71{x:Str}{p1 p2 px ps:Pos}{k2:Nat}{iter:Ñ}{sc:ú}{I D a:Æ}{en:Env}{its:Array Ã}{m:Str->Option Ã}{kss:List (List Int)}(hu:A.units < Ä6)(hh:A.handled=none)(hI:a≠I)
  (hl:kss.length=its.size) (hz:its.size<=sizeLine) (ka:∀ (i:Nat) (ks:List Int),kss[i]?=some ks->∃ b:Æ,its[i]?=some (Á3 b)/\b≠I/\b≠D/\b≠en.locals/\Ú2 (Ñ9 P w) s.heap ks b)
  (hx:en.kindOf x=some .local) (hk:en.scope.kind=.function) (hd:(x == ("__debug__":Str))=false) (hDC:D≠en.locals) (hDI:D≠I) (hDa:D≠a) (hCI:en.locals≠I) (hCa:en.locals≠a)
  (st:s.heap.IsListIter I a 0/\s.heap.IsList a its) (ac:E21 D [] s.heap) (hn:s.heap.Ns en.locals m)
  (hR:∀ (h':ë) (tk:Nat) m' (xs:List Ke),h'.Ns en.locals m'->E21 D xs h'->(∀ ks,ks∈xs.map (·.1)↔ks∈kss)->(∀ x∈xs,∃ i:Nat,kss[i]?=some x.1/\its[i]?=some (Á3 x.2.1))->(∀ b o,b≠en.locals->b≠I->b≠D->s.heap.get? b=some o->h'.get? b=some o)->R (.ok .next) { s with heap:=h',toks:=tk }) :
  Í3 (Ü P w) A (.compLoop (.DictComp (.Name x p1) (.Constant (.bool true) k2 p2) [⟨.Name x px,iter,[],0⟩] sc ps) 0 (.ref I) (.ref D) en) R s:=by
 have W:=Walks.list (prog:=P) (w:=w) hh I a hI its;have keyS:∀ {h':ë}{ks:List Int}{b:Æ},(∀ b o,b≠en.locals->b≠I->b≠D->s.heap.get? b=some o->h'.get? b=some o)->b≠I->b≠D->b≠en.locals->Ú2 (Ñ9 P w) s.heap ks b->Ú2 (Ñ9 P w) h' ks b:=λk n1 n2 n3 ⟨o,i,n,e,r⟩=>⟨o,i,n,k _ o n3 n1 n2 e,r⟩;refine codeAny_compLoop_testsD (λn s'=>∃ (i:Nat) (h':ë) (tk:Nat) (m':Str->Option Ã) (xs:List Ke),s'={ s with heap:=h',toks:=tk }/\i<=its.size/\n=its.size + 1 - i/\(h'.IsListIter I a i/\h'.IsList a its)/\E21 D xs h'/\h'.Ns en.locals m'/\xs.length<=i/\(∀ ks,ks∈xs.map (·.1)↔ks∈kss.take i) /\
  (∀ x∈xs,∃ i:Nat,kss[i]?=some x.1/\its[i]?=some (Á3 x.2.1))/\∀ b o,b≠en.locals->b≠I->b≠D->s.heap.get? b=some o->h'.get? b=some o) ?_ (its.size + 1)
  ⟨0,s.heap,s.toks,m,[],rfl,Æ6 _,rfl,st,ac,hn,Æ6 _,λks=>(by simp),λx hx=>(by simp at hx),λ_ _ _ _ _ e=>e⟩
 rintro n s' ⟨i,h',tk,m',xs,rfl,hi,rfl,st',ac',hn',hxl,hks,had,hkp⟩;by_cases hlt:i < its.size
 ·refine W.item i _ _ _ hlt st' λv h1 tk1 hv st1 k1=>?_;have hv':kss[i]?=some kss[i]:=Ù ∅
  obtain⟨b,hb,bI,bD,bC,isb⟩:=ka i _ hv';have hv0:its[i]?=some v:=hv;rw[hb] at hv0;cases hv0;refine Ú8 (Õ0 hx (hn'.at' λo e=>k1 _ o (by simpa using hCI) e) (λh2 hn2 sb2=>?_) (by rw[hk];rfl))
  have k2:∀ b o,b≠en.locals->b≠I->h'.get? b=some o->h2.get? b=some o:=λb o z1 z2 e=>sb2.extBut b o z1 (k1 b o (by simpa using z2) e)
  refine wpAny_tests_nil ?_;rw[if_pos rfl];refine Ì7 (Í4 (v:=.ref b) hk hx hn2 (by simp) ?_) hd
  refine Constant_bool ?_;obtain⟨o,es,ep,e1,e2,e3,e4,e5⟩:=ac';have kall:∀ b o,b≠en.locals->b≠I->b≠D->s.heap.get? b=some o->h2.get? b=some o:=λb o z1 z2 z3 e=>k2 b o z1 z2 (hkp b o z1 z2 z3 e);have isK:∀ x∈xs,Ú2 (Ñ9 P w) h2 x.1 x.2.1:=λx hx=>by
   obtain⟨j,q1,q2⟩:=had x hx;obtain⟨b',r1,r2,r3,r4,r5⟩:=ka j _ q1;rw[q2] at r1;cases r1;exact keyS kall r2 r3 r4 r5
  refine wpAny_dictSet_heap (hsz:=by omega) (knd:=tupleKind (Ñ9 P w)) hu (keyS kall bI bD bC isb) ⟨o,es,ep,k2 D o hDC hDI e1,e2,e3,e4,isK,e5⟩ λh3 ⟨o3,es3,ep3,f1,f2,f3,f4,_,f6⟩ sb3=>?_
  refine⟨its.size + 1 - (i + 1),by omega,i + 1,h3,_,_,Ú9 xs kss[i] b (.bool true),rfl,hlt,rfl,W.frame _ h2 _ ?_ λc hc o e=>sb3.extBut c o (λz=>?_) e,⟨o3,es3,ep3,f1,f2,f3,f4,f6⟩,hn2.sameBut sb3 (Á0 hDC),Ò h61 ∅,λks=>?_,λy hy=>?_,λc o z1 z2 z3 e=>sb3.extBut c o z3 (kall c o z1 z2 z3 e)⟩
  ·exact W.frame _ _ _ st1 λc hc o e=>sb2.extBut c o (λz=>by subst z;rcases è.mp hc with z | z;exact hCI z;exact hCa (by simpa using z)) e
  ·subst z;rcases è.mp hc with z | z
   ·exact hDI z
   ·exact hDa (by simpa using z)
  ·rw[T80,hks,List.take_succ,mem_append,hv'];exact or_congr Ô9 (À8 (a:=ks) (b:=kss[i])).symm
  ·rcases h51 hy with ⟨u,hu',e6,e7⟩ | ⟨e6,e7⟩
   ·rw[← e6,← e7];exact had u hu'
   ·exact⟨i,by rw[e6];exact hv',by rw[e7];exact hb⟩
 ·have hin:i=its.size:=by omega
  subst hin;refine W.done _ _ _ st' λh1 tk1 k1=>?_;obtain⟨o,es,ep,e1,e2⟩:=ac';exact hR h1 tk1 m' xs (hn'.at' λo e=>k1 _ o (by simpa using hCI) e) ⟨o,es,ep,k1 _ _ (by simpa using hDI) e1,e2⟩ (λks=>by rw[hks,← hl,List.take_length]) had λb o z1 z2 z3 e=>k1 b o (by simpa using z2) (hkp b o z1 z2 z3 e)
end
theorem I60{α β:Type}{R:α->β->Prop}:∀ {l:List α}{r:List β}{i:Nat}{b:β},Ä3 R l r->r[i]?=some b->∃ a,l[i]?=some a/\R a b
 |_,_,_,_,.nil,e=>by simp at e|_,_,0,_,.cons h _,e=>by cases e;exact⟨_,rfl,h⟩
 |_,_,i + 1,_,.cons _ t,e=>I60 (i:=i) t e
section
variable {X:Cx}
def f62(K:Á)(ti:TE):TE:=λσ H Q=>ti σ H λv H1=>∃ a ys kss,v=.ref a/\SqL K H1 a ys/\Ä3 (λy ks=>∃ b,y=.ref b/\SqT K H1 b (ks.map V.int)) ys kss/\∀ d H2,a30 H1 H2->H1 d=none->h41 K H2 d kss->Q (.ref d) H2
theorem E31{x:Str}{p1 p2 px ps:Pos}{k2:Nat}{iter:Ñ}{sc:ú}{ti:TE}(hc:X.calm=true)(hu:X.A.units < Ä6)(S:p20 X sc [x] [])(hx:sc.names.lookup x=some .local)(hd:(x == ("__debug__":Str))=false)(hi:PE X iter ti)
  (hs:∀ v,Ç9 iter X.env v=pure v):PE X (.DictComp (.Name x p1) (.Constant (.bool true) k2 p2) [⟨.Name x px,iter,[],0⟩] sc ps) (f62 X.K ti):=by
 intro pins s σ H Q I h;obtain⟨cl,hclos,hcl,hcf⟩:=S90 (scope:=sc) (env:=X.env) λy hy hk=>I.ok.has y.1 (S.frees y hy hk);rw[arm_eval_DictComp];refine Ò2 (use:=none) rfl hs hclos S.kind S.locs (thn (hi pins s σ H _ I h) λv s1 h1=>?_);obtain⟨x1,H1,I1,r1,a,ys,kss,rfl,hq,pk,q⟩:=h1;cases r1;obtain⟨its,rv,p,hz⟩:=I1.list hq;have hal:a < s1.heap.objs.size:=by
  obtain⟨_,o,e,_⟩:=p;exact á e
 refine Ñ8 p.isList (À0 (Ö3 S.nocell (by intro y hy;simp at hy) (λh2 hns sb=>?_) S.kind))
 dsimp only at hns sb ⊢;generalize e0:s1.heap.push { cls:=.type "list_iterator",data:=.fields #[.ref a,.int 0 0] }=g0 at hns sb ⊢;generalize e1:g0.push { cls:=.type "dict",dict:=none,data:=.dict #[] }=g1 at hns sb ⊢;have z0:g0.objs.size=s1.heap.objs.size + 1:=by rw[← e0,É8]
 have z1:g1.objs.size=s1.heap.objs.size + 2:=by rw[← e1,É8,z0]
 have n01:s1.heap.objs.size≠g0.objs.size:=by omega
 have n02:s1.heap.objs.size≠g1.objs.size:=by omega
 have n12:g0.objs.size≠g1.objs.size:=by omega
 have lw:∀ {b:Æ},b < s1.heap.objs.size->b≠s1.heap.objs.size/\b≠g0.objs.size/\b≠g1.objs.size:=λ{b} hb=>⟨ä hb,ä (Ø hb ∅),ä (Ø hb ∅)⟩
 have old0:∀ b o,g0.get? b=some o->b≠g1.objs.size->h2.get? b=some o:=λb o e n=>sb.extBut b o n (Ä _ (e1 ▸ Ä _ e));have old:∀ b o,s1.heap.get? b=some o->h2.get? b=some o:=λb o e=>old0 b o (e0 ▸ Ä _ e) (lw (á e)).2.2;have hit:h2.IsListIter s1.heap.objs.size a 0:=⟨_,old0 _ _ (e0 ▸ Ï _ rfl) n02,rfl,rfl⟩;have hD:E21 g0.objs.size [] h2:=⟨_,#[],_,sb.extBut _ _ n12 (Ä _ (e1 ▸ Ï _ rfl)),⟨rfl,rfl,rfl⟩,rfl,rfl,by simp⟩
 have loop:∀ s3:Å,s3={ s1 with heap:=h2,toks:=s1.toks + ([]:List (Str × Ã)).length }->Í3 (Ü X.prog X.w) X.A (.compLoop (.DictComp (.Name x p1) (.Constant (.bool true) k2 p2) [⟨.Name x px,iter,[],0⟩] sc ps) 0 (.ref s1.heap.objs.size) (.ref g0.objs.size) (compEnvC sc cl g1.objs.size X.env))
   (compPost (Ü X.prog X.w) X.A X.xe none (EP X pins σ Q) (.ref g0.objs.size) g1.objs.size) s3:=by
  rintro s3 rfl;refine h71 (kss:=kss) (its:=its.toArray) (a:=a) hu (I1.ok.hd hc) (lw hal).1 (by rw[Õ,← rv.length];exact pk.length.symm) (by rw[Õ,← rv.length];exact hz) (λi ks e=>?_) (lookup_relabel_local hx) S.kind hd n12 n01.symm (lw hal).2.1.symm n02.symm (lw hal).2.2.symm
   ⟨hit,p.isList.at λo e=>old _ o e⟩ hD hns λh' tk m' xs hn' kd kk ka kp=>?_
  ·obtain⟨y,hy,b,rfl,hb⟩:=I60 pk e;obtain⟨u,hu1,hu2⟩:=rv.get hy;cases hu2;obtain⟨o,i2,n2,f1,f2⟩:=key_is I1 hb;obtain⟨l1,l2,l3⟩:=lw (á f1);exact⟨b,by simpa using hu1,l1,l2,l3,o,i2,n2,old _ _ f1,f2⟩
  ·refine⟨m',hn',λh3 sb3=>?_⟩;obtain⟨o,es,ep,f1,f2⟩:=kd;have kd3:E21 g0.objs.size xs h3:=⟨o,es,ep,sb3.extBut _ _ n12 f1,f2⟩;have kp3:∀ b o,s1.heap.get? b=some o->h3.get? b=some o:=λb o e=>by
    obtain⟨l1,l2,l3⟩:=lw (á e);exact sb3.extBut b o l3 (kp b o l3 l1 l2 (old b o e))
   have hDn:H1 g0.objs.size=none:=I1.hok.fresh ∅
   have hst:∀ h1 h2:ë,E21 g0.objs.size xs h1->(∀ o,h1.get? g0.objs.size=some o->h2.get? g0.objs.size=some o)->E21 g0.objs.size xs h2:=λ_ _ ⟨o,es,ep,f1,f2⟩ k=>⟨o,es,ep,k _ f1,f2⟩;refine⟨.ref g0.objs.size,upd H1 g0.objs.size (.ext (E21 g0.objs.size xs)),I1.laid (t':=tk) kp3 ∅ ⟨kd3,⟨o,sb3.extBut _ _ n12 f1⟩,hst⟩,rfl,q _ _ (a30.new _ hDn) hDn ⟨xs,b20,?_,λy hy=>?_,kk⟩⟩
   ·exact beq_eq_false_iff_ne.mpr (lw I1.big).2.1.symm
   ·obtain⟨i,g1',g2⟩:=ka y hy;obtain⟨u,hu0,b,rfl,hb⟩:=I60 pk g1';obtain⟨u',hu1,hu2⟩:=rv.get hu0;cases hu2;have g2':its[i]?=some (.ref y.2.1):=by simpa using g2
    rw[hu1] at g2';cases g2';exact a30.sqT (a30.new _ hDn) hb
 exact codeAny_compStart_dict (loop _ rfl) (wpAny_pyIter_listiter hit (loop _ rfl))
end
end L2
namespace Q
open PySem L2
abbrev Z:=Option (Int × Bool)
inductive S where
 |d (x:D) | fr (xs:List D) | z
 |ks (l:List (List Int))
inductive R (α:Type) where
 |ok (a:α) (z:Z) | er (c:Nat) (z:Z)
abbrev M(α:Type):=Z->Option (R α)
def M.ret{α:Type}(a:α):M α:=λz=>some (.ok a z)
def M.no{α:Type}:M α:=λ_=>none
def M.of{α:Type}:Option α->M α
 |some a=>M.ret a|none=>M.no
def M.bind{α β:Type}(m:M α)(f:α->M β):M β:=λz=>match m z with
 |some (.ok a z1)=>f a z1|some (.er c z1)=>some (.er c z1)|none=>none
def M.calm{α:Type}(m:M α):M α:=λz=>match m z with
 |some (.ok a z1)=>some (.ok a z1)|_=>none
abbrev Env:=List (Option S)
def pl:List S->Option D
 |[.d x]=>some x|[.fr xs]=>some (.lst xs)|_=>none
def one:List S->Option S
 |[s]=>some s|_=>none
def plS:S->S
 |.fr xs=>.d (.lst xs)|s=>s
def plD:S->Option D
 |.d x=>some x|.fr xs=>some (.lst xs)|_=>none
def plA:List S->Option (List D)
 |[]=>some []|.d x::r=>(plA r).map (x::·)|.fr xs::r=>(plA r).map (.lst xs::·)|_::_=>none
inductive Bi where
 |add | sub | mul | fdiv | mod | pow
inductive Cm where
 |eq | ne | lt | le | gt | ge | mem | nmem
inductive Bf where
 |len | sorted | tuple | list | sum | min | max | all | any | int | sset | q62
inductive Ty where
 |int | bool | tuple | list | str | seq
inductive Pat where
 |v (i:Nat) | tup (ps:Pat) | nil | cons (p r:Pat)
inductive It where
 |seq | rng1 | rng2 | zip
inductive Ex where
 |nil | cons (a r:Ex)
 |var (i:Nat) | con (x:D) | gint (g:Str) (i:Int)
 |tup (as:Ex) | lst (as:Ex)
 |bin (o:Bi) (a b:Ex) | cmp (o:Cm) (a b:Ex) | neg (a:Ex)
 |not (a:Ex) | and (a b:Ex) | or (a b:Ex) | orT (a b:Ex) | ite (c a b:Ex)
 |ch (o o':Cm) (a b c:Ex)
 |bf (f:Bf) (as:Ex) | isi (t:Ty) (a:Ex)
 |idx (a i:Ex) | sl (a lo hi:Ex)
 |call (f:Nat) (as:Ex)
 |comp (own:Nat) (capt:List Nat) (p:Pat) (it:It) (src cond el:Ex)
 |zget (i k:Nat) | lrng (b:Bool) (as:Ex)
 |dkeys (a:Ex) | memk (o:Bool) (a:Ex) (i:Nat)
 |refd (capt:List Nat) (a:Ex)
abbrev most:Nat:=100000
def p01:Nat:=2 ^ 4000
mutual
noncomputable def eqD:D->D->Bool
 |.non,.non=>true|.bl a,.bl b=>a == b|.int a,.int b=>a == b|.str a,.str b=>a == b|.bl a,.int b=>(if a then 1 else 0) == b|.int a,.bl b=>a == (if b then 1 else 0)|.tup a,.tup b=>Q91 a b|.lst a,.lst b=>Q91 a b|.dct,.dct=>true|_,_=>false
noncomputable def Q91:List D->List D->Bool
 |[],[]=>true|a::r,b::q=>eqD a b&&Q91 r q|_,_=>false
end
mutual
noncomputable def ltD:D->D->Option Bool
 |.int a,.int b=>some (decide (a < b))|.tup a,.tup b=>y81 a b|_,_=>none
noncomputable def y81:List D->List D->Option Bool
 |[],[]=>some false|[],_::_=>some true|_::_,[]=>some false|a::r,b::q=>if eqD a b then y81 r q else ltD a b
end
mutual
noncomputable def u30:D->Bool
 |.dct=>false|.tup l=>e20 l|.lst l=>e20 l|.str x=>PyData.strOk x|_=>true
noncomputable def e20:List D->Bool
 |[]=>true|x::r=>u30 x&&e20 r
end
mutual
noncomputable def deep:D->Nat
 |.tup l=>g00 l + 1|.lst l=>g00 l + 1|_=>0
noncomputable def g00:List D->Nat
 |[]=>0|x::r=>Nat.max (deep x) (g00 r)
end
def okD(d:D):Bool:=u30 d&&decide (deep d<=40)
def Z61(l:List D):Bool:=e20 l&&decide (g00 l<=39)
theorem g30{c:Prop}[Decidable c]{α:Type}{a:Option α}{b:α}(h:(if c then a else none)=some b):c/\a=some b:=by
 by_cases k:c
 ·rw[if_pos k] at h;exact⟨k,h⟩
 ·rw[if_neg k] at h;cases h
def eqO(a b:D):Option Bool:=if okD a&&okD b then some (eqD a b) else none
def eqE:D->D->Option Bool
 |.tup l,.tup []=>some l.isEmpty|_,_=>none
def eqQ(a b:D):Option Bool:=if okD a&&okD b then some (eqD a b) else eqE a b
def ltO(a b:D):Option Bool:=if okD a&&okD b then ltD a b else none
def memD(x:D)(l:List D):Bool:=l.any λy=>eqD y x
def j41(x:D)(l:List D):Option Bool:=if okD x&&Z61 l then some (memD x l) else none
def m20:List D->Option (List Int)
 |[]=>some []|.int i::r=>(m20 r).map (i::·)|_=>none
def T90:Bi->D->D->Option S
 |.add,.int i,.int j=>some (.d (.int (i + j)))|.add,.tup a,.tup b=>if a.length + b.length<=most then some (.d (.tup (a++b))) else none|.add,.lst a,.lst b=>if a.length + b.length<=most then some (.fr (a++b)) else none|.sub,.int i,.int j=>some (.d (.int (i - j)))|.mul,.int i,.int j=>if i.natAbs < p01/\j.natAbs < p01 then some (.d (.int (i * j))) else none|.mul,.tup a,.int j=>if 0<=j/\j.toNat * a.length<=most/\j < 1000000 then some (.d (.tup (ï j.toNat a).flatten)) else none|.mul,.lst a,.int j=>if 0<=j/\j.toNat * a.length<=most/\j < 1000000 then some (.fr (ï j.toNat a).flatten) else none|.fdiv,.int i,.int j=>if 0 < j/\j.natAbs < p01 then some (.d (.int (i / j))) else none|.mod,.int i,.int j=>if 0 < j then some (.d (.int (i % j))) else none|.pow,.int i,.int j=>if 0<=j/\j<=1000/\i.natAbs < 2 ^ 64 then some (.d (.int (i ^ j.toNat))) else none|_,_,_=>none
def D32:D->Bool
 |.non=>true|_=>false
def neO:D->D->Option Bool
 |.dct,.tup _=>some true|a,b=>(eqO a b).map (!·)
def C80:Cm->D->D->Option Bool
 |.eq,a,b=>eqQ a b|.ne,a,b=>neO a b|.lt,a,b=>ltO a b|.gt,.int a,.int b=>some (decide (b < a))|.le,.int a,.int b=>some (decide (a<=b))|.le,.tup a,.tup b=>(m20 a).bind λns=>(m20 b).map λms=>HT.leB ns ms|.ge,.int a,.int b=>some (decide (b<=a))|.mem,a,.tup l=>j41 a l|.mem,a,.lst l=>j41 a l|.nmem,a,.tup l=>(j41 a l).map (!·)|.nmem,a,.lst l=>(j41 a l).map (!·)|_,_,_=>none
def Z71:Ty->D->Bool
 |.int,.int _=>true|.int,.bl _=>true|.bool,.bl _=>true|.tuple,.tup _=>true|.list,.lst _=>true|.str,.str _=>true|.seq,.tup _=>true|.seq,.lst _=>true|_,_=>false
def asB:D->Option Bool
 |.bl b=>some b|_=>none
def f72:D->Option (List D)
 |.tup l=>some l|_=>none
def asI:D->Option Int
 |.int i=>some i|_=>none
def Z70:D->Option (List D)
 |.tup l=>some l|.lst l=>some l|_=>none
mutual
noncomputable def flt:D->List Int
 |.int i=>[i]|.tup l=>f82 l|_=>[]
noncomputable def f82:List D->List Int
 |[]=>[]|x::r=>flt x++f82 r
end
mutual
noncomputable def eqT:D->D->Bool
 |.int i,.int j=>i == j|.tup a,.tup b=>E00 a b|_,_=>false
noncomputable def E00:List D->List D->Bool
 |[],[]=>true|x::r,y::q=>eqT x y&&E00 r q|_,_=>false
end
def Z80:D->Nat
 |.int _=>0|.tup (.int _::_)=>1|.tup (.tup _::_)=>2|_=>3
def l70(x y:D):Bool:=Z80 y == Z80 x&&(ltD x y == some (MySort.f80 (flt x) (flt y))&&(eqT x y || !(flt x == flt y)))
def l80(l:List D):Bool:=l.all λx=>decide (Z80 x < 3)&&(okD x&&l.all (l70 x))
def E41(k:D):List D->List D
 |[]=>[k]|y::r=>if MySort.f80 (flt y) (flt k) then y::E41 k r else k::y::r
def A00:List D->List D
 |[]=>[]|k::r=>E41 k (A00 r)
def b80(k m:Nat):D:=.tup ((TS.i60 k 0 m).map λ(i:Nat)=>.int i)
def g20(k:Nat):List D:=(Ú (2 ^ k)).map (b80 k)
def p11(k:Nat):List D:=(TS.sN k).map (b80 k)
def v02(l:List D):Option (List D):=((Ú 9).find? λk=>E00 l (g20 k)).map p11
abbrev f92(l:List D):Option (List D):=v02 l
def sortedS(x:D):Option S:=(Z70 x).bind λl=>if l.length < 64/\l80 l=true then some (.fr (A00 l)) else(f92 l).map S.fr
def g02:List D->Option Int
 |[]=>some 0|.int i::r=>(g02 r).map (i + ·)|_=>none
def v12(ns:List Int):Option S:=(ns.find? λa=>ns.all λb=>decide (b<=a)).map λa=>.d (.int a)
def bfD:Bf->List D->Option S
 |.len,[x]=>(Z70 x).map λl=>.d (.int l.length)|.tuple,[x]=>(Z70 x).map λl=>.d (.tup l)|.list,[x]=>(Z70 x).map λl=>.fr l|.all,[.lst l]=>(l.mapM asB).map λbs=>.d (.bl (bs.all id))|.any,[.lst l]=>(l.mapM asB).map λbs=>.d (.bl (bs.any id))|.sorted,[x]=>sortedS x|.sum,[x]=>((Z70 x).bind g02).map λi=>.d (.int i)|.min,[.int i,.int j]=>some (.d (.int (if j < i then j else i)))|.max,[.int i,.int j]=>some (.d (.int (if j > i then j else i)))|.max,[.tup l]=>(m20 l).bind v12|.int,[.bl b]=>some (.d (.int (if b then 1 else 0)))|.int,[.int i]=>some (.d (.int i))|_,_=>none
def L40:D->D->Option D
 |.tup l,.int i=>atI l i|.lst l,.int i=>atI l i|_,_=>none
def cutD(l:List D)(lo hi:Option Int):List D:=(l.drop (HT.sIx l.length 0 lo)).take (HT.sIx l.length l.length hi - HT.sIx l.length 0 lo)
def slD:D->Option Int->Option Int->Option S
 |.tup l,lo,hi=>some (.d (.tup (cutD l lo hi)))|.lst l,lo,hi=>some (.fr (cutD l lo hi))|_,_,_=>none
def p21:List S->Option (Option Int)
 |[]=>some none|[.d (.int i)]=>some (some i)|_=>none
def v22:List D->Nat->List D
 |[],_=>[]|x::r,i=>.tup [.int i,x]::v22 r (i + 1)
def u40:List D->List D->List D
 |x::r,y::q=>.tup [x,y]::u40 r q|_,_=>[]
def inR:Int->Bool
 |.ofNat n=>Ô7 n 100000|.negSucc n=>Ô7 n 99999
theorem A10:inR j=true↔-100000 < j/\j < 100000:=by
 cases j with
 |ofNat n=>show ble (n + 1) 100000=true↔_;rw[ble_eq];show _↔-100000 < (n:Int)/\(n:Int) < 100000;omega|negSucc n=>show ble (n + 1) 99999=true↔_;rw[ble_eq,Int.negSucc_eq];omega
def itD:It->List D->Option (List D)
 |.seq,[x]=>Z70 x|.rng1,[.int j]=>if inR j=true then some ((Ú j.toNat).map λ(i:Nat)=>D.int i) else none|.rng2,[.int i,.int j]=>if inR i=true/\inR j=true then some ((Ú (j - i).toNat).map λ(k:Nat)=>D.int (i + k)) else none|.zip,[.tup a,.tup b]=>some (u40 a b)|.zip,[.lst a,.lst b]=>some (u40 a b)|_,_=>none
def lrS:Bool->List D->S
 |true,xs=>.d (.tup xs)|false,xs=>.fr xs
def lrN:Bool->Str
 |true=>"tuple"|false=>"list"
def lrD:List D->Option (List D)
 |[x]=>itD .rng1 [x]|l=>itD .rng2 l
mutual
noncomputable def f20:Pat->D->Env->Option Env
 |.v i=>λx ρ=>some (ρ.set i (some (.d x)))
 |.tup ps=>λx ρ=>match x with
  |.tup l=>bindL ps l ρ|_=>none
 |.nil=>λ_ _=>none|.cons _ _=>λ_ _=>none
noncomputable def bindL:Pat->List D->Env->Option Env
 |.nil=>λl ρ=>match l with
  |[]=>some ρ|_=>none
 |.cons p r=>λl ρ=>match l with
  |x::l=>(f20 p x ρ).bind λρ=>bindL r l ρ|_=>none
 |.v _=>λ_ _=>none|.tup _=>λ_ _=>none
end
def turns(f:D->M (Option D)):List D->M (List D)
 |[]=>M.ret []|x::r=>M.bind (f x) λo=>M.bind (turns f r) λl=>M.ret (match o with | some y=>y::l | none=>l)
def u90(fc fe:Env->M (List S))(p:Pat)(ρ0:Env)(x:D):M (Option D):=M.bind (M.of (f20 p x ρ0)) λρ'=>M.bind (fc ρ') λc=>match c with
 |[]=>M.bind (fe ρ') λy=>M.bind (M.of (pl y)) λy=>M.ret (some y)|[.d (.bl true)]=>M.bind (fe ρ') λy=>M.bind (M.of (pl y)) λy=>M.ret (some y)|[.d (.bl false)]=>M.ret none|_=>M.no
def p31(k:Nat):Option (Option S)->Z->Option (R (List S))
 |some (some .z),some p=>if k=0 then some (.ok [.d (.int p.1)] (some p)) else if k=1 then some (.ok [.d (.bl p.2)] (some p)) else none|_,_=>none
abbrev FT:=Bool->Nat->List S->M S
abbrev A20(F:FT):FT:=λ_=>F true
def E51(ρ:Env):List Nat->Option (List S)
 |[]=>some []
 |i::r=>match ρ[i]? with
  |some (some s)=>(E51 ρ r).map (s::·)|_=>none
def g12(o:Option (List S))(m:Env->M (List S)):M (List S):=λz=>match o with
 |none=>none
 |some ss=>match m (ss.map some) z with
  |some (.er c z1)=>if c < 12 then some (.ok [.fr [.int c]] z1) else none|_=>none
def Z81:D->Option (List Int)
 |.tup l=>m20 l|_=>none
def p41:List D->Option (List (List Int))
 |[]=>some []|x::r=>(Z81 x).bind λk=>(p41 r).map (k::·)
def R01:D->Option (List (List Int))
 |.lst l=>p41 l|_=>none
def v32:Option (Option S)->Option (List (List Int))
 |some (some (.ks l))=>some l|_=>none
def ev:FT->Ex->Env->M (List S)
 |F,.nil=>λ_=>M.ret []|F,.cons a r=>λρ=>M.bind (ev F a ρ) λx=>M.bind (M.of (one x)) λs=>M.bind (ev F r ρ) λy=>M.ret (s::y)
 |F,.var i=>λρ=>match ρ[i]? with
  |some (some s)=>M.ret [plS s]|_=>M.no
 |F,.con x=>λ_=>M.ret [.d x]|F,.gint _ i=>λ_=>M.ret [.d (.int i)]|F,.tup as=>λρ=>M.bind (ev F as ρ) λl=>M.bind (M.of (plA l)) λds=>if ds.length<=most then M.ret [.d (.tup ds)] else M.no|F,.lst as=>λρ=>M.bind (ev F as ρ) λl=>M.bind (M.of (plA l)) λds=>if ds.length<=most then M.ret [.fr ds] else M.no|F,.bin o a b=>λρ=>M.bind (ev F a ρ) λx=>M.bind (M.of (pl x)) λx=>M.bind (ev F b ρ) λy=>M.bind (M.of (pl y)) λy=>M.bind (M.of (T90 o x y)) λs=>M.ret [s]|F,.cmp o a b=>λρ=>M.bind (ev F a ρ) λx=>M.bind (M.of (pl x)) λx=>M.bind (ev F b ρ) λy=>M.bind (M.of (pl y)) λy=>M.bind (M.of (C80 o x y)) λb=>M.ret [.d (.bl b)]|F,.neg a=>λρ=>M.bind (ev F a ρ) λx=>M.bind (M.of ((pl x).bind asI)) λi=>M.ret [.d (.int (-i))]|F,.not a=>λρ=>M.bind (ev F a ρ) λx=>M.bind (M.of ((pl x).bind asB)) λb=>M.ret [.d (.bl !b)]|F,.and a b=>λρ=>M.bind (ev F a ρ) λx=>M.bind (M.of ((pl x).bind asB)) λc=>if c then M.bind (ev F b ρ) λy=>M.bind (M.of ((pl y).bind asB)) λc=>M.ret [.d (.bl c)] else M.ret [.d (.bl false)]|F,.or a b=>λρ=>M.bind (ev F a ρ) λx=>M.bind (M.of ((pl x).bind asB)) λc=>if c then M.ret [.d (.bl true)] else M.bind (ev F b ρ) λy=>M.bind (M.of ((pl y).bind asB)) λc=>M.ret [.d (.bl c)]|F,.orT a b=>λρ=>M.calm (M.bind (ev F a ρ) λx=>M.bind (M.of ((pl x).bind f72)) λl=>if l.isEmpty then M.bind (ev F b ρ) λy=>M.bind (M.of ((pl y).bind f72)) λl=>M.ret [.d (.tup l)] else M.ret [.d (.tup l)])|F,.ite c a b=>λρ=>M.bind (ev F c ρ) λx=>M.bind (M.of ((pl x).bind asB)) λc=>if c then ev F a ρ else ev F b ρ
 |F,.ch o o' a b c=>λρ=>M.bind (ev F a ρ) λx=>M.bind (M.of (pl x)) λx=>M.bind (ev F b ρ) λy=>M.bind (M.of (pl y)) λy=>M.bind (M.of (C80 o x y)) λk =>
   if k then M.bind (ev F c ρ) λw=>M.bind (M.of (pl w)) λw=>M.bind (M.of (C80 o' y w)) λk=>M.ret [.d (.bl k)] else M.ret [.d (.bl false)]
 |F,.bf f as=>λρ=>M.bind (ev F as ρ) λl=>M.bind (M.of (plA l)) λds=>M.bind (M.of (bfD f ds)) λs=>M.ret [s]|F,.isi t a=>λρ=>M.bind (ev F a ρ) λx=>M.bind (M.of (pl x)) λx=>M.ret [.d (.bl (Z71 t x))]|F,.idx a i=>λρ=>M.bind (ev F a ρ) λx=>M.bind (M.of (pl x)) λx=>M.bind (ev F i ρ) λy=>M.bind (M.of (pl y)) λy=>M.bind (M.of (L40 x y)) λr=>M.ret [.d r]|F,.sl a lo hi=>λρ=>M.bind (ev F a ρ) λx=>M.bind (M.of (pl x)) λx=>M.bind (ev F lo ρ) λu=>M.bind (M.of (p21 u)) λu=>M.bind (ev F hi ρ) λv=>M.bind (M.of (p21 v)) λv=>M.bind (M.of (slD x u v)) λs=>M.ret [s]|F,.call f as=>λρ=>M.bind (ev F as ρ) λl=>M.bind (F false f (l.map plS)) λs=>M.ret [s]|F,.comp own capt p it src cond el=>λρ=>M.bind (ev F src ρ) λl=>M.bind (M.of ((plA l).bind (itD it))) λxs=>if xs.length<=most then M.bind (M.calm (turns (u90 (ev F cond) (ev F el) p (ï own none++capt.map λi=>(ρ[i]?).getD none)) xs)) λys=>M.ret [.fr ys] else M.no|F,.zget i k=>λρ z=>p31 k ρ[i]? z|F,.lrng b as=>λρ=>M.bind (ev F as ρ) λl=>M.bind (M.of ((plA l).bind lrD)) λxs=>M.ret [lrS b xs]|F,.dkeys a=>λρ=>M.bind (ev F a ρ) λl=>M.bind (M.of ((pl l).bind R01)) λkss=>M.ret [.ks kss]|F,.memk o a i=>λρ=>M.bind (ev F a ρ) λl=>M.bind (M.of ((pl l).bind Z81)) λk=>M.bind (M.of (v32 ρ[i]?)) λkss=>M.ret [.d (.bl (kss.contains k == o))]|F,.refd capt a=>λρ=>g12 (E51 ρ capt) λρ'=>ev (A20 F) a ρ'
def N90(ρ:Env):Env:=ρ.map λo=>match o with
 |some .z=>none|o=>o
inductive Sm where
 |nil | seq (s r:Sm)
 |set (p:Pat) (e:Ex) | ret (e:Ex) | iff (c:Ex) (t e:Sm)
 |fr (p:Pat) (it:It) (src:Ex) (b:Sm)
 |whl (c:Ex) (b:Sm)
 |rais (c:Nat) | exp (e:Ex)
 |app (i:Nat) (e:Ex)
 |newz (i:Nat) (f:Nat) (as:Ex) | zset (i:Nat) (e:Ex) | apop (i j:Nat) (e:Ex)
inductive O where
 |nx (ρ:Env) | rt (s:S)
mutual
noncomputable def bare:D->Bool
 |.lst _=>false|.tup l=>i70 l|.dct=>false|_=>true
noncomputable def i70:List D->Bool
 |[]=>true|x::r=>bare x&&i70 r
end
def D00:S->Bool
 |.d x=>bare x|.fr xs=>i70 xs|_=>true
def U00(ρ:Env):Env:=ρ.map λo=>o.map plS
def D10(b:Bool):Option S->Option S
 |some (.fr xs)=>some (if b then .fr xs else .d (.lst xs))|o=>o
theorem O00(b:Bool)(ρ:Env):ρ.map (D10 b)=if b then ρ else U00 ρ:=by
 have h:∀ o:Option S,D10 b o=if b then o else o.map plS:=λo=>by
  match o with
  |some (.fr xs)=>cases b <;> rfl
  |some (.d _)=>cases b <;> rfl
  |some .z=>cases b <;> rfl
  |some (.ks _)=>cases b <;> rfl
  |none=>cases b <;> rfl
 rw[show D10 b=λo=>if b then o else o.map plS from funext h];cases b with
 |true=>exact Ô3 ρ|false=>rfl
def k40(s:S)(ρ:Env):Env:=ρ.map (D10 (D00 s))
def I70:Pat->S->Env->Option Env
 |p,.d x,ρ=>f20 p x ρ|.v i,s,ρ=>if i < ρ.length then some (ρ.set i (some s)) else none|_,_,_=>none
def S10(f:D->Env->M O):List D->Env->M O
 |[],ρ=>M.ret (.nx ρ)
 |x::r,ρ=>M.bind (f x ρ) λo=>match o with
  |.nx ρ=>S10 f r ρ|.rt s=>M.ret (.rt s)
def K11(c:Env->M (List S))(f:Env->M O):Nat->Env->M O
 |0,_=>M.no
 |n + 1,ρ=>M.bind (c ρ) λx=>M.bind (M.of ((pl x).bind asB)) λk=>if k then M.bind (f ρ) λo=>match o with
  |.nx ρ=>K11 c f n ρ|.rt s=>M.ret (.rt s)
  else M.ret (.nx ρ)
def ownAt(ρ:Env)(i:Nat):Option (List D):=match ρ[i]? with
 |some (some (.fr xs))=>some xs|_=>none
def D42(xs:List D)(i:Int)(y:D):Option (List D):=(ixN xs.length i).map λj=>xs.set j y
def R11:D->Bool
 |.tup l=>i70 l|.lst l=>i70 l|_=>true
def O10(l:List S):Bool:=match plA l with
 |some ds=>ds.all R11|none=>false
def noS:S->Option S
 |.z=>none|.ks _=>none|s=>some s
def R21:(it:It)->(e:Ex)->Option {i:Nat // it=.seq/\e=.cons (.var i) .nil}
 |.seq,.cons (.var i) .nil=>some ⟨i,rfl,rfl⟩|_,_=>none
def j51:List S->Bool
 |[]=>false|.d (.lst _)::_=>true|_::r=>j51 r
def O20(it:It)(e:Ex)(l:List S)(ρ:Env):Env:=match R21 it e with
 |some i=>ρ.set i.1 ((ρ[i.1]?.getD none).map plS)
 |none=>match j51 l with
  |true=>U00 ρ|false=>ρ
def p51(it:It)(e:Ex)(l:List S)(ρ:Env):Env:=(O20 it e l ρ).map (D10 (O10 l))
abbrev Z91:Nat:=20000
def p61(ρ:Env)(i j:Nat)(xs ys:List D)(k:Int):Option O :=
 if i≠j/\0<=k/\inR k=true/\xs.length < most then(ys[k.toNat]?).bind λy=>if bare y=true then some (.nx ((ρ.set j (some (.fr (ys.eraseIdx k.toNat)))).set i (some (.fr (xs++[y]))))) else none else none
def g22(F:FT)(i j:Nat)(e:Ex):Env->M O:=λρ=>M.bind (M.of (ownAt ρ i)) λxs=>M.bind (M.of (ownAt ρ j)) λys=>M.bind (ev F e ρ) λl=>M.bind (M.of ((pl l).bind asI)) λk=>M.bind (M.of (p61 ρ i j xs ys k)) λo=>M.ret o
def p71(tp:Bool)(ρ:Env)(i:Nat):List S->Option (R O)
 |[.fr [.int n,.bl b]]=>if tp then some (.ok (.nx ((N90 ρ).set i (some .z))) (some (n,b))) else none|_=>none
def p81(ρ:Env)(v:Int):Option (Option S)->Z->Option (R O)
 |some (some .z),some p=>some (.ok (.nx ρ) (some (v,p.2)))|_,_=>none
def ex(F:FT)(tp:Bool):Sm->Env->M O
 |.nil=>λρ=>M.ret (.nx ρ)
 |.seq s r=>λρ=>M.bind (ex F tp s ρ) λo=>match o with
  |.nx ρ=>ex F tp r ρ|.rt s=>M.ret (.rt s)
 |.set p e=>λρ=>M.bind (ev F e ρ) λl=>M.bind (M.of (one l)) λs=>M.bind (M.of (I70 p s (k40 s ρ))) λρ=>M.ret (.nx ρ)
 |.ret e=>λρ=>match e with
  |.var i=>(match ρ[i]? with
   |some (some s)=>M.bind (M.of (noS s)) λs=>M.ret (.rt s)
   |_=>M.no)
  |e=>M.bind (ev F e ρ) λl=>M.bind (M.of ((one l).bind noS)) λs=>M.ret (.rt s)
 |.iff c t e=>λρ=>M.bind (ev F c ρ) λx=>M.bind (M.of ((pl x).bind asB)) λc=>if c then ex F tp t ρ else ex F tp e ρ|.fr p it src b=>λρ=>M.bind (ev F src ρ) λl=>M.bind (M.of ((plA l).bind (itD it))) λxs=>S10 (λx ρ=>M.bind (M.of (f20 p x ρ)) λρ=>ex F tp b ρ) xs (p51 it src l ρ)|.whl c b=>λρ=>K11 (ev F c) (ex F tp b) Z91 ρ|.rais c=>λ_ z=>some (.er c z)|.exp e=>λρ=>M.bind (ev F e ρ) λl=>M.bind (M.of (one l)) λ_=>M.ret (.nx ρ)|.app i e=>λρ=>M.bind (M.of (ownAt ρ i)) λxs=>M.bind (ev F e ρ) λl=>M.bind (M.of (pl l)) λx=>if bare x=true/\xs.length < most then M.ret (.nx (ρ.set i (some (.fr (xs++[x]))))) else M.no|.newz i f as=>λρ=>M.bind (ev F (.call f as) ρ) λl=>λ_=>p71 tp ρ i l|.zset i e=>λρ=>M.bind (ev F e ρ) λl=>M.bind (M.of ((pl l).bind asI)) λv=>λz=>p81 ρ v ρ[i]? z|.apop i j e=>λρ=>g22 F i j e ρ
inductive Df where
 |code (ps ns:Nat) (b:Sm) | prim (f:List S->M S)
def I80:Z->Z->Z
 |none,_=>none|some _,z=>z
def start(ns:Nat)(l:List S):Env:=l.map some++ï (ns - l.length) none
def run(F:FT):Df->List S->M S
 |.code ps ns b,l=>λz=>if l.length=ps/\ps<=ns then(match ex F z.isNone b (start ns (l.map plS)) z with
  |some (.ok (.nx _) z1)=>some (.ok (.d .non) (I80 z z1))|some (.ok (.rt s) z1)=>some (.ok s (I80 z z1))|some (.er c z1)=>some (.er c (I80 z z1))
  |none=>none) else none
 |.prim f,l=>f l
def c00(T:List Df):Nat->Nat->List S->M S
 |k + 3,f,l=>match T[f]? with
  |some d=>run (λb g m=>match b with | true=>c00 T k g m | false=>c00 T (k + 2) g m) d l
  |none=>M.no
 |_,_,_=>M.no
abbrev Z90(T:List Df)(k:Nat):FT:=λb g m=>match b with | true=>c00 T (k - 2) g m | false=>c00 T k g m
theorem U10(T:List Df)(k f:Nat)(l:List S):c00 T (k + 3) f l=match T[f]? with
  |some d=>run (Z90 T (k + 2)) d l|none=>M.no:=rfl
end Q
namespace Q
open PySem L2 PySem.Spec PyProof.Rows
def p50(K:Á)(H:Hp)(a:Æ)(xs:List V):Prop:=Rd H a (.lst xs)∨∃ (its:Array Ã) (n:Nat),K.lookup a=some { cls:=.type "list",data:=.seq its n }/\its.size<=sizeLine/\Vals xs its.toList
theorem p50.of{K:Á}{H:Hp}{a:Æ}{xs:List V}(h:H a=some (.lst xs)):p50 K H a xs:=.inl (.inl h)
theorem p50.sq{K:Á}{H:Hp}{a:Æ}{xs:List V}(h:p50 K H a xs):SqL K H a xs:=by
 rcases h with h | ⟨its,n,h1,h2,h3⟩
 ·exact .inl h
 ·exact .inr ⟨_,its,n,h1,rfl,rfl,rfl,h2,h3⟩
theorem p50.same{K:Á}{H H':Hp}{a:Æ}{xs:List V}(h:p50 K H a xs)(e:a30 H H'):p50 K H' a xs:=by
 rcases h with (h | ⟨o,h⟩) | h
 ·exact .inl (.inl (e _ _ h))
 ·exact .inl (.inr ⟨o,e _ _ h⟩)
 ·exact .inr h
theorem p50.mem(I:Inv X pins σ H s)(h:p50 X.K H a xs):xs.length<=sizeLine/\∃ (its:List Ã) (n:Nat),Vals xs its/\xs.length=its.length/\s.heap.get? a=some { cls:=.type "list",data:=.seq its.toArray n }:=by
 rcases h with (h | ⟨o,h⟩) | ⟨its,n,h1,h2,h3⟩
 ·exact I.d62 h
 ·obtain⟨e,z,its,n,r,e2⟩:=I.hok a _ h;exact⟨z,its,n,r,r.length,e2⟩
 ·refine⟨by rw[h3.length,È9];exact h2,its.toList,n,h3,h3.length,?_⟩
  have:=I.kIn a _ h1;rw[Î9];exact this
mutual
def Hd(K:Á)(H:Hp):D->V->Prop
 |.non,v=>v=.non|.bl b,v=>v=.bl b|.int i,v=>v=.int i|.str x,v=>v=.str x|.tup ds,v=>∃ a xs,v=.ref a/\SqT K H a xs/\HdA K H ds xs|.lst ds,v=>∃ a xs,v=.ref a/\p50 K H a xs/\HdA K H ds xs|.dct,v=>∃ a kvs,v=.ref a/\H a=some (.dK kvs)
def HdA(K:Á)(H:Hp):List D->List V->Prop
 |[],xs=>xs=[]|d::ds,xs=>∃ x r,xs=x::r/\Hd K H d x/\HdA K H ds r
end
section
variable {K:Á}{H H':Hp}
mutual
theorem Hd.same(e:a30 H H'):∀ {d:D}{v:V},Hd K H d v->Hd K H' d v
 |.non,_,h=>by unfold Hd at h ⊢;exact h|.bl _,_,h=>by unfold Hd at h ⊢;exact h|.int _,_,h=>by unfold Hd at h ⊢;exact h|.str _,_,h=>by unfold Hd at h ⊢;exact h
 |.tup ds,_,h=>by
  unfold Hd at h ⊢;obtain⟨a,xs,rfl,h1,h2⟩:=h;exact⟨a,xs,rfl,e.sqT h1,HdA.same e h2⟩
 |.lst ds,_,h=>by
  unfold Hd at h ⊢;obtain⟨a,xs,rfl,h1,h2⟩:=h;exact⟨a,xs,rfl,h1.same e,HdA.same e h2⟩
 |.dct,_,h=>by
  unfold Hd at h ⊢;obtain⟨a,kvs,rfl,h1⟩:=h;exact⟨a,kvs,rfl,e _ _ h1⟩
theorem HdA.same(e:a30 H H'):∀ {ds:List D}{xs:List V},HdA K H ds xs->HdA K H' ds xs
 |[],_,h=>by unfold HdA at h ⊢;exact h
 |d::ds,_,h=>by
  unfold HdA at h ⊢;obtain⟨x,r,rfl,h1,h2⟩:=h;exact⟨x,r,rfl,Hd.same e h1,HdA.same e h2⟩
end
mutual
theorem Hd.has:∀ {d:D}{v:V},Hd K H d v->Has K H d v
 |.non,_,h=>by unfold Hd at h;unfold Has;exact h|.bl _,_,h=>by unfold Hd at h;unfold Has;exact h|.int _,_,h=>by unfold Hd at h;unfold Has;exact h|.str _,_,h=>by unfold Hd at h;unfold Has;exact h
 |.tup ds,_,h=>by
  unfold Hd at h;unfold Has;obtain⟨a,xs,rfl,h1,h2⟩:=h;exact⟨a,xs,rfl,h1,HdA.has h2⟩
 |.lst ds,_,h=>by
  unfold Hd at h;unfold Has;obtain⟨a,xs,rfl,h1,h2⟩:=h;exact⟨a,xs,rfl,h1.sq,HdA.has h2⟩
 |.dct,_,h=>by unfold Hd at h;unfold Has;exact h
theorem HdA.has:∀ {ds:List D}{xs:List V},HdA K H ds xs->D80 K H ds xs
 |[],_,h=>by unfold HdA at h;unfold D80;exact h
 |d::ds,_,h=>by
  unfold HdA at h;unfold D80;obtain⟨x,r,rfl,h1,h2⟩:=h;exact⟨x,r,rfl,Hd.has h1,HdA.has h2⟩
end
theorem HdA.nil:HdA K H [] []:=by unfold HdA;rfl
theorem HdA.cons(h:Hd K H d x)(r:HdA K H ds xs):HdA K H (d::ds) (x::xs):=by unfold HdA;exact⟨x,xs,rfl,h,r⟩
theorem HdA.b90(h:HdA K H (d::ds) xs):∃ x r,xs=x::r/\Hd K H d x/\HdA K H ds r:=by unfold HdA at h;exact h
theorem HdA.e30(h:HdA K H [] xs):xs=[]:=by unfold HdA at h;exact h
theorem HdA.length:∀ {ds:List D}{xs:List V},HdA K H ds xs->xs.length=ds.length
 |[],_,h=>by rw[h.e30];rfl
 |d::ds,_,h=>by
  obtain⟨x,r,rfl,_,h2⟩:=h.b90;simp[h2.length]
theorem HdA.get:∀ {ds:List D}{xs:List V}{i:Nat}{d:D},HdA K H ds xs->ds[i]?=some d->∃ x,xs[i]?=some x/\Hd K H d x
 |[],_,_,_,_,e=>by simp at e
 |d::ds,_,i,d',h,e=>by
  obtain⟨y,r,rfl,h1,h2⟩:=h.b90;cases i with
  |zero=>simp at e;subst e;exact⟨y,rfl,h1⟩
  |succ i =>
   obtain⟨x',e1,e2⟩:=HdA.get (i:=i) h2 (by simpa using e)
   exact⟨x',by simpa using e1,e2⟩
theorem HdA.append:∀ {ds es:List D}{xs ys:List V},HdA K H ds xs->HdA K H es ys->HdA K H (ds++es) (xs++ys)
 |[],_,_,_,h,g=>by rw[h.e30];exact g
 |d::ds,_,_,_,h,g=>by
  obtain⟨x,r,rfl,h1,h2⟩:=h.b90;exact .cons h1 (HdA.append h2 g)
theorem HdA.take:∀ {ds:List D}{xs:List V} (n:Nat),HdA K H ds xs->HdA K H (ds.take n) (xs.take n)
 |ds,xs,0,_=>by simp;exact .nil|[],_,n + 1,h=>by rw[h.e30];simp;exact .nil
 |d::ds,_,n + 1,h=>by
  obtain⟨x,r,rfl,h1,h2⟩:=h.b90;exact .cons h1 (HdA.take n h2)
theorem HdA.drop:∀ {ds:List D}{xs:List V} (n:Nat),HdA K H ds xs->HdA K H (ds.drop n) (xs.drop n)
 |ds,xs,0,h=>by simpa using h|[],_,n + 1,h=>by rw[h.e30];simp;exact .nil
 |d::ds,_,n + 1,h=>by
  obtain⟨x,r,rfl,h1,h2⟩:=h.b90;exact HdA.drop n h2
theorem HdA.reverse:∀ {ds:List D}{xs:List V},HdA K H ds xs->HdA K H ds.reverse xs.reverse
 |[],_,h=>by rw[h.e30];simp;exact .nil
 |d::ds,_,h=>by
  obtain⟨x,r,rfl,h1,h2⟩:=h.b90;rw[Ò7,Ò7];exact(HdA.reverse h2).append (.cons h1 .nil)
theorem HdA.rep(h:HdA K H ds xs):∀ n:Nat,HdA K H (ï n ds).flatten (ï n xs).flatten
 |0=>by simp;exact .nil|n + 1=>by rw[Å7,Å7,Ê9,Ê9];exact h.append (h.rep n)
theorem HdA.set:∀ {ds:List D}{xs:List V}{d:D}{x:V} (i:Nat),HdA K H ds xs->Hd K H d x->HdA K H (ds.set i d) (xs.set i x)
 |[],_,_,_,_,h,_=>by rw[h.e30];simp;exact .nil
 |e::ds,_,d,x,i,h,g=>by
  obtain⟨y,r,rfl,h1,h2⟩:=h.b90;cases i with
  |zero=>exact .cons g h2|succ i=>exact .cons h1 (HdA.set i h2 g)
theorem HdA.ints:∀ ns:List Int,HdA K H (ns.map D.int) (ns.map V.int)
 |[]=>.nil|n::r=>.cons (by unfold Hd;rfl) (HdA.ints r)
theorem Hd.j30(h:Hd K H (.int i) v):v=.int i:=by unfold Hd at h;exact h
theorem Hd.bl_(h:Hd K H (.bl b) v):v=.bl b:=by unfold Hd at h;exact h
theorem Hd.D52(h:Hd K H .non v):v=.non:=by unfold Hd at h;exact h
theorem Hd.D62{x:Str}{v:V}(h:Hd K H (.str x) v):v=.str x:=by unfold Hd at h;exact h
theorem Hd.y20(h:Hd K H (.tup ds) v):∃ a xs,v=.ref a/\SqT K H a xs/\HdA K H ds xs:=by unfold Hd at h;exact h
theorem Hd.a01(h:Hd K H (.lst ds) v):∃ a xs,v=.ref a/\p50 K H a xs/\HdA K H ds xs:=by unfold Hd at h;exact h
theorem Hd.int:Hd K H (.int i) (.int i):=by unfold Hd;rfl
theorem Hd.bl:Hd K H (.bl b) (.bl b):=by unfold Hd;rfl
theorem Hd.non:Hd K H .non .non:=by unfold Hd;rfl
theorem Hd.str{x:Str}:Hd K H (.str x) (.str x):=by unfold Hd;rfl
theorem Hd.tup(h:SqT K H a xs)(r:HdA K H ds xs):Hd K H (.tup ds) (.ref a):=by unfold Hd;exact⟨a,xs,rfl,h,r⟩
theorem Hd.lst(h:H a=some (.lst xs))(r:HdA K H ds xs):Hd K H (.lst ds) (.ref a):=by unfold Hd;exact⟨a,xs,rfl,p50.of h,r⟩
end
def noT(H:Hp):Hp:=λb=>match H b with
 |some (.tbl _)=>none|o=>o
theorem O30(h:noT H b=some o):H b=some o/\∀ ps,o≠.tbl ps:=by
 unfold noT at h;split at h
 ·cases h
 ·rename_i n;exact⟨h,λps e=>n ps (by rw[h,e])⟩
theorem U20(h:H b=some o)(n:∀ ps,o≠.tbl ps):noT H b=some o:=by
 unfold noT;split
 ·rename_i ps e;rw[h] at e;cases e;exact absurd rfl (n ps)
 ·exact h
theorem y30(H:Hp):a30 (noT H) H:=λ_ _ h=>(O30 h).1
theorem a11(e:a30 H H'):a30 (noT H) (noT H'):=λb o h=>U20 (e b o (O30 h).1) (O30 h).2
def hz(zA:Option Æ)(H:Hp):Hp:=match zA with
 |some a=>hide a (noT H)|none=>noT H
class Tb where
 tb:List (Addr × Str)
variable [TB:Tb]
def zAt(zA:Option Æ)(z:Z)(H:Hp):Prop:=match zA,z with
 |some a,some (n,b)=>H a=some (.lst [.int n,.bl b])|none,none=>True|_,_=>False
structure d50(zA:Option Addr)(z:Z)(H:Hp):Prop where
 zat:zAt zA z H
 tab:∀ p∈TB.tb,Tab H p.1 p.2
theorem a10(zA:Option Æ)(H:Hp):a30 (hz zA H) H:=by
 cases zA with
 |none=>exact y30 H|some a=>exact a30.trans (f90 a _) (y30 H)
theorem j40(e:a30 H H'):a30 (hz zA H) (hz zA H'):=by
 cases zA with
 |none=>exact a11 e|some a=>exact z60 λb o _ h=>a11 e b o h
theorem d20(h:H b=some o)(n:zA≠some b)(ht:∀ ps,o≠.tbl ps:=by exact λ_ h=>nomatch h):hz zA H b=some o:=by
 cases zA with
 |none=>exact U20 h ht|some a=>exact H80 (U20 h ht) λe=>n (by rw[e])
theorem p00(h:hz zA H b=some o):H b=some o/\zA≠some b:=by
 cases zA with
 |none=>exact⟨y30 H b o h,λe=>nomatch e⟩
 |some a =>
  refine⟨y30 H b o (f90 a _ b o h),λe=>?_⟩;cases e;have:hide b (noT H) b=some o:=h;unfold hide at this;rw[if_pos rfl] at this;cases this
theorem p60(h:hz zA H b=some o):∀ ps,o≠.tbl ps:=by
 cases zA with
 |none=>exact(O30 h).2|some a=>exact(O30 (f90 a _ b o h)).2
structure Ext(zA:Option Addr)(H H':Hp):Prop where
 same:a30 (hz zA H) (hz zA H')
 tbl:∀ b ps,H b=some (.tbl ps)->∃ qs,H' b=some (.tbl qs)
instance {zA:Option Æ}{H H':Hp}:CoeFun (Ext zA H H') (λ_=>∀ b o,hz zA H b=some o->hz zA H' b=some o):=⟨λx=>x.same⟩
instance {zA:Option Æ}{H H':Hp}:CoeOut (Ext zA H H') (a30 (hz zA H) (hz zA H')):=⟨λx=>x.same⟩
theorem Ext.refl:Ext zA H H:=⟨a30.refl _,λb ps h=>⟨ps,h⟩⟩
theorem Ext.trans(a:Ext zA H H1)(b:Ext zA H1 H2):Ext zA H H2:=⟨a30.trans a.same b.same,λc ps h=>let ⟨qs,h1⟩:=a.tbl c ps h;b.tbl c qs h1⟩
theorem Ext.of(e:a30 H H'):Ext zA H H':=⟨j40 e,λb ps h=>⟨ps,e b _ h⟩⟩
theorem Ext.at(e:Ext zA H H')(h:H a=some o)(n:zA≠some a)(ht:∀ ps,o≠.tbl ps:=by exact λ_ h=>nomatch h):H' a=some o:=(p00 (e.same a o (d20 h n ht))).1
theorem Ext.free(e:Ext zA H H')(h:H' a=none)(n:zA≠some a):H a=none:=by
 cases q:H a with
 |none=>rfl
 |some o =>
  by_cases ht:∃ ps,o=.tbl ps
  ·obtain⟨ps,rfl⟩:=ht;obtain⟨qs,q'⟩:=e.tbl a ps q;rw[q'] at h;cases h
  ·rw[e.at q n λps z=>ht ⟨ps,z⟩] at h;cases h
theorem zAt.same(h:zAt zA z H)(e:a30 H H'):zAt zA z H':=by
 cases zA with
 |none=>cases z with
  |none=>trivial|some _=>exact h.elim
 |some a=>cases z with
  |none=>exact h.elim|some p=>exact e _ _ h
theorem d50.same(h:d50 zA z H)(e:a30 H H'):d50 zA z H':=⟨h.zat.same e,λp hp=>(h.tab p hp).same e⟩
theorem Tab.upd{H:Hp}{P a:Æ}{q:Str}{xs:List V}{o:HO}(t:Tab H P q)(h:H a=some (.lst xs)):Tab (upd H a o) P q:=by
 obtain⟨ps,e,tr,k⟩:=t;have ne:∀ {b:Æ}{u:HO},H b=some u->(∀ l,u≠.lst l)->b≠a:=λ{b u} e1 e2 z=>by
  subst z;rw[h] at e1;cases e1;exact e2 _ rfl
 refine⟨ps,by rw[a40 (ne e λ_ z=>nomatch z)];exact e,tr,λpos c hc=>?_⟩
 obtain⟨c',e1,e2⟩:=k pos c hc;exact⟨c',e1,by rw[a40 (ne e2 λ_ z=>nomatch z)];exact e2⟩
theorem d50.R31{K:Á}{zA:Option Æ}{z:Z}{H:Hp}(h:d50 zA z H){a:Æ}{xs:List V}(t:SqT K H a xs):SqT K (hz zA H) a xs:=by
 have h:=h.zat;rcases t with (t | ⟨o,t⟩) | t
 ·refine .inl (.inl (d20 t λe=>?_));subst e;cases z with
  |none=>exact h.elim
  |some p =>
   have h':H a=some (.lst [.int p.1,.bl p.2]):=h;rw[t] at h';cases h'
 ·refine .inl (.inr ⟨o,d20 t λe=>?_⟩);subst e;cases z with
  |none=>exact h.elim
  |some p =>
   have h':H a=some (.lst [.int p.1,.bl p.2]):=h;rw[t] at h';cases h'
 ·exact .inr t
theorem d50.a21(h:d50 zA z H)(n:H a=none):zA≠some a:=λe=>by
 have h:=h.zat;subst e;cases z with
 |none=>exact h.elim
 |some p =>
  have h':H a=some (.lst [.int p.1,.bl p.2]):=h;rw[n] at h';cases h'
def RvS(K:Á)(zA:Option Æ)(H0 H:Hp):S->V->Prop
 |.d x,v=>Hd K (hz zA H) x v|.fr xs,v=>∃ a ys,v=.ref a/\H0 a=none/\zA≠some a/\H a=some (.lst ys)/\HdA K (hide a (hz zA H)) xs ys|.z,v=>∃ a,zA=some a/\v=.ref a|.ks l,v=>∃ d,v=.ref d/\h41 K (hz zA H) d l
def RvP(K:Á)(zA:Option Æ)(H:Hp):S->V->Prop
 |.d x,v=>Hd K (hz zA H) x v|.fr xs,v=>Hd K (hz zA H) (.lst xs) v|.z,v=>∃ a,zA=some a/\v=.ref a|.ks l,v=>∃ d,v=.ref d/\h41 K (hz zA H) d l
section
variable {K:Á}{zA:Option Æ}{H0 H H':Hp}
theorem RvS.pl{s:S}{v:V}(h:RvS K zA H0 H s v):RvP K zA H s v:=by
 cases s with
 |d x=>exact h|z=>exact h|ks l=>exact h
 |fr xs =>
  obtain⟨a,ys,rfl,_,h2,h3,h4⟩:=h;exact Hd.lst (d20 h3 h2) (h4.same (f90 a _))
theorem RvP.plS{s:S}{v:V}(h:RvP K zA H s v):RvP K zA H (plS s) v:=by cases s <;> exact h
theorem RvP.mono{s:S}{v:V}(h:RvP K zA H s v)(e:Ext zA H H'):RvP K zA H' s v:=by
 cases s with
 |d x=>exact Hd.same e h|z=>exact h|ks l=>obtain⟨d,q,k⟩:=h;exact⟨d,q,k.same e.same⟩
 |fr xs=>exact Hd.same e h
theorem RvS.mono{s:S}{v:V}(h:RvS K zA H0 H s v)(e:Ext zA H H'):RvS K zA H0 H' s v:=by
 cases s with
 |d x=>exact Hd.same e h|z=>exact h|ks l=>obtain⟨d,q,k⟩:=h;exact⟨d,q,k.same e.same⟩
 |fr xs =>
  obtain⟨a,ys,rfl,h1,h2,h3,h4⟩:=h;exact⟨a,ys,rfl,h1,h2,e.at h3 h2,h4.same (z60 λb o _ q=>e b o q)⟩
theorem RvS.from{H1:Hp}{s:S}{v:V}(h:RvS K zA H1 H s v)(e:Ext zA H0 H1):RvS K zA H0 H s v:=by
 cases s with
 |d x=>exact h|z=>exact h|ks l=>exact h
 |fr xs =>
  obtain⟨a,ys,rfl,h1,h2,h3⟩:=h;exact⟨a,ys,rfl,e.free h1 h2,h2,h3⟩
theorem RvP.d_{s:S}{v:V}{x:D}(h:RvP K zA H s v)(e:plD s=some x):Hd K (hz zA H) x v:=by
 cases s with
 |d y=>cases e;exact h
 |fr xs=>cases e;exact h
 |_=>cases e
end
abbrev RvA(K:Á)(zA:Option Æ)(H:Hp):List S->List V->Prop:=Ä3 (RvP K zA H)
theorem RvA.mono{K:Á}{zA:Option Æ}{H H':Hp}{l:List S}{vs:List V}(h:RvA K zA H l vs)(e:Ext zA H H'):RvA K zA H' l vs:=Ä3.Z21 h λ_ _ q=>q.mono e
theorem RvA.plS{K:Á}{zA:Option Æ}{H:Hp}:∀ {l:List S}{vs:List V},RvA K zA H l vs->RvA K zA H (l.map plS) vs
 |_,_,.nil=>.nil|_,_,.cons r t=>.cons r.plS (RvA.plS t)
theorem RvA.ds{K:Á}{zA:Option Æ}{H:Hp}:∀ {l:List S}{vs:List V}{ds:List D},RvA K zA H l vs->plA l=some ds->HdA K (hz zA H) ds vs
 |_,_,_,.nil,e=>by cases e;exact .nil
 |.d x::r,_,_,.cons h t,e=>by
  simp only[plA,È] at e;obtain⟨l,e,rfl⟩:=e;exact .cons h (RvA.ds t e)
 |.fr x::r,_,_,.cons h t,e=>by
  simp only[plA,È] at e;obtain⟨l,e,rfl⟩:=e;exact .cons h (RvA.ds t e)
 |.z::r,_,_,.cons h t,e=>by simp[plA] at e|.ks _::r,_,_,.cons h t,e=>by simp[plA] at e
theorem e90(h:pl l=some x):∃ s,l=[s]/\plD s=some x:=by
 unfold pl at h;split at h
 ·exact⟨_,rfl,h⟩
 ·exact⟨_,rfl,h⟩
 ·cases h
theorem M.bind_some{α β:Type}{m:M α}{f:α->M β}{z:Z}{r:R β}(h:M.bind m f z=some r):(∃ a z1,m z=some (.ok a z1)/\f a z1=some r)∨(∃ c z1,m z=some (.er c z1)/\r=.er c z1):=by
 unfold M.bind at h;split at h
 ·exact .inl ⟨_,_,by assumption,h⟩
 ·cases h;exact .inr ⟨_,_,by assumption,rfl⟩
 ·cases h
theorem M.a20{α β:Type}{o:Option α}{f:α->M β}{z:Z}{r:R β}(h:M.bind (M.of o) f z=some r):∃ a,o=some a/\f a z=some r:=by
 cases o with
 |none=>cases h
 |some a=>exact⟨a,rfl,h⟩
end Q
set_option exponentiation.threshold 5000
namespace Q
open PySem L2 PySem.Spec PyProof.Rows
variable [TB:Tb]
section
variable {K:Á}{zA:Option Æ}{z:Z}{H:Hp}
theorem E61(hp:H p=none):a30 (hz zA H) (hide p (hz zA (upd H p o))):=λb u e=>by
 obtain⟨e1,e2⟩:=p00 e;have hb:b≠p:=λq=>by subst q;rw[hp] at e1;cases e1
 exact H80 (d20 (by rw[a40 hb];exact e1) e2 (p60 e)) hb
theorem i10:RvS K zA H0 H (.d (.int i)) (.int i):=Hd.int (K:=K) (H:=hz zA H)
theorem h30:RvS K zA H0 H (.d (.bl b)) (.bl b):=Hd.bl (K:=K) (H:=hz zA H)
theorem y91(h:Hd K (hz zA H) x v):RvS K zA H0 H (.d x) v:=h
theorem p70(st:d50 zA z H)(h:HdA K (hz zA H) xs ys)(hp:H p=none):RvS K zA H (upd H p (.lst ys)) (.fr xs) (.ref p) :=
 ⟨p,ys,rfl,hp,st.a21 hp,b20,h.same (E61 hp)⟩
theorem tupQ(st:d50 zA z H)(h:HdA K (hz zA H) xs ys)(q:∀ v H',a30 H H'->RvS K zA H H' (.d (.tup xs)) v->Q v H'):C71 K H ys Q :=
 λp H' sm hq=>q _ _ sm (y91 (Hd.tup ((st.same sm).R31 hq) (h.same (j40 sm))))
end
def rD2(K:Á)(f:D->D->Option S):R2:=λx y H Q=>∃ zA z dx dy s,d50 zA z H/\Hd K (hz zA H) dx x/\Hd K (hz zA H) dy y/\f dx dy=some s/\∀ v H',a30 H H'->RvS K zA H H' s v->Q v H'
def rDn(K:Á)(f:List D->Option S):List V->Hp->VK->Prop:=λxs H Q=>∃ zA z ds s,d50 zA z H/\HdA K (hz zA H) ds xs/\f ds=some s/\∀ v H',a30 H H'->RvS K zA H H' s v->Q v H'
section
variable {X:Cx}
theorem bits_le(h:k.natAbs < p01):Ü0 k<=4000:=by
 unfold Ü0;split
 ·exact Æ6 _
 ·have hn:k.natAbs < 2 ^ 4000:=h;have:k.natAbs.log2 < 4000:=by
   rcases Nat.eq_zero_or_pos k.natAbs with h0 | hp
   ·rw[h0];decide
   ·exact(Nat.log2_lt (Ï1 hp)).mpr hn
  omega
theorem g32(hi:i.natAbs < p01)(hj:j.natAbs < p01):IntMulOk i j:=by
 have h1:=bits_le hi;have h2:=bits_le hj;unfold IntMulOk;intro h;rw[Â] at h;have h3:=h.2;unfold Ä2.Int.intTooBig at h3;simp only[decide_eq_true_eq] at h3;have:(8000:Nat) < bitsLine:=by decide
 omega
theorem p91(hj:j.natAbs < p01):Ä2.divisionGoesByPylong i j=false:=by
 refine PyProof.noPylong_of_log2 ?_;rcases Nat.eq_zero_or_pos j.natAbs with h0 | hp
 ·rw[h0];decide
 ·have:j.natAbs.log2 < 4000:=(Nat.log2_lt (Ï1 hp)).mpr hj;omega
theorem e40(h:n<=most):n<=sizeLine:=Ò h (by rw[Â8];decide)
def v42(K:Á):R2:=λx y H Q=>∃ l b xs zs,x=.ref l/\y=.ref b/\p50 K H l xs/\p50 K H b zs/\xs.length + zs.length<=sizeLine/\∀ p,H p=none->Q (.ref p) (upd H p (.lst (xs++zs)))
def v52(K:Á):R2:=λx y H Q=>∃ l k xs,x=.ref l/\y=.int k/\p50 K H l xs/\-(2 ^ 63)<=k/\k < 2 ^ 63/\xs.length * k.toNat<=sizeLine/\∀ p,H p=none->Q (.ref p) (upd H p (.lst (ï k.toNat xs).flatten))
theorem R41:OpR X (Ä7 .Add) (v42 X.K):=by
 intro pins s σ H x y v u Q I rx ry h;obtain⟨l,b,xs,zs,rfl,rfl,hH,hB,hz,q⟩:=h;cases rx;cases ry;obtain⟨z,its,n,r,hl,e⟩:=hH.mem I;obtain⟨z2,its2,n2,r2,hl2,e2⟩:=hB.mem I;refine PySem.P.add_list e e2 ?_ (by rw[Õ,Õ];omega)
 have ea:its.toArray++its2.toArray=(its++its2).toArray:=by simp
 rw[ea];exact⟨.ref _,_,I.t62 (t':=s.toks) (r.append r2) (by rw[õ];omega),rfl,q _ I.fresh⟩
theorem R51:OpR X (Ä7 .Mult) (v52 X.K):=by
 intro pins s σ H x y v u Q I rx ry h;obtain⟨l,k,xs,rfl,rfl,hH,h1,h2,hz,q⟩:=h;cases rx;obtain⟨t,rfl⟩:=ry;obtain⟨z,its,n,r,hl,e⟩:=hH.mem I;have hlen:its.toArray.size * k.toNat<=sizeLine:=by rw[Õ,← hl];exact hz
 have hcap:¬ its.toArray.size * k.toNat > (2 ^ 63 - 1) / 8:=by
  have:(sizeLine:Nat)<=(2 ^ 63 - 1) / 8:=by decide
  omega
 have hfit:¬ (!Ä2.List.listFitsIndex k)=true:=by
  rw[fitsIndex_both h1 h2];exact Ð
 have hlong:¬ Ì6 (its.toArray.size * k.toNat)=true:=by
  rw[A61 hlen];exact Ð
 have hnew:foldl (λx1 x2=>x1++x2) #[] (ï (if its.toArray.isEmpty=true then 0 else k.toNat) its.toArray)=(ï k.toNat its).flatten.toArray:=by
  have f0:∀ m:Nat,foldl (λx1 x2=>x1++x2) #[] (ï m its.toArray)=(ï m its).flatten.toArray:=λm=>by
   have:=foldl_rep its m [];rw[Ï0] at this;exact this
  rw[f0];cases its with
  |nil=>simp|cons a r'=>rw[if_neg (by simp)]
 refine wpAny_binaryOp_repeat_ref (T:="list") (U:="int") (-0) ⟨_,e,rfl⟩ (λs'=>Ù7 s' k t) noFill_list_mul F.fills_int_mul Ó8 repeat_list F.slot_int_index.lookup
  (Ç4 Ó8 (Ù7 s k t) F.entry_int_rmul (F.args_int_rmul_2 _ _) (int___rmul___int_list k t l its.toArray n)
   ⟨e,rfl,⟨_,e,rfl⟩,Ç4 F.slot_list_mul ⟨_,e,rfl⟩ F.entry_list_mul (F.args_list_mul_2 _ _) (AutoListH.list___mul___list_int_3 l its.toArray n k t hfit hcap hlong) ⟨e,?_⟩⟩)
 rw[hnew];exact⟨.ref _,_,I.t62 (t':=s.toks) (r.rep k.toNat) (by rw[len_rep,Ø5];exact hz),rfl,q _ I.fresh⟩
theorem R61:OpR X (Ä7 .Add) (rD2 X.K (T90 .add)):=by
 intro pins s σ H x y v u Q I rx ry h;obtain⟨zA,z,dx,dy,w,st,hx,hy,e,q⟩:=h;cases dx with
 |int i =>
  cases dy with
  |int j =>
   cases e;cases hx.j30;cases hy.j30;exact c42 pins s σ H _ _ v u Q I rx ry ⟨i,j,rfl,rfl,q _ _ (a30.refl H) i10⟩
  |_=>cases e
 |tup a =>
  cases dy with
  |tup b =>
   obtain⟨hl,e⟩:=g30 e;cases e;obtain⟨p,xs,rfl,h1,h2⟩:=hx.y20;obtain⟨p',ys,rfl,h3,h4⟩:=hy.y20;exact P81 pins s σ H _ _ v u Q I rx ry ⟨p,p',xs,ys,rfl,rfl,(a10 zA H).sqT h1,(a10 zA H).sqT h3,e40 (by rw[h2.length,h4.length];exact hl),tupQ st (h2.append h4) q⟩
  |_=>cases e
 |lst a =>
  cases dy with
  |lst b =>
   obtain⟨hl,e⟩:=g30 e;cases e;obtain⟨p,xs,rfl,h1,h2⟩:=hx.a01;obtain⟨p',ys,rfl,h3,h4⟩:=hy.a01;exact R41 pins s σ H _ _ v u Q I rx ry ⟨p,p',xs,ys,rfl,rfl,h1.same (a10 zA H),h3.same (a10 zA H),e40 (by rw[h2.length,h4.length];exact hl),λr hr=>q _ _ (a30.new _ hr) (p70 st (h2.append h4) hr)⟩
  |_=>cases e
 |_=>cases e
theorem R71:OpR X (Ä7 .Sub) (rD2 X.K (T90 .sub)):=by
 intro pins s σ H x y v u Q I rx ry h;obtain⟨zA,z,dx,dy,w,st,hx,hy,e,q⟩:=h;cases dx with
 |int i =>
  cases dy with
  |int j =>
   cases e;cases hx.j30;cases hy.j30;exact c52 pins s σ H _ _ v u Q I rx ry ⟨i,j,rfl,rfl,q _ _ (a30.refl H) i10⟩
  |_=>cases e
 |_=>cases e
theorem R81:OpR X (Ä7 .Mult) (rD2 X.K (T90 .mul)):=by
 intro pins s σ H x y v u Q I rx ry h;obtain⟨zA,z,dx,dy,w,st,hx,hy,e,q⟩:=h;cases dx with
 |int i =>
  cases dy with
  |int j =>
   obtain⟨hl,e⟩:=g30 e;cases e;cases hx.j30;cases hy.j30;obtain⟨t,rfl⟩:=rx;obtain⟨t',rfl⟩:=ry;exact mul_int ⟨.int (i * j),H,I.tok _,⟨_,rfl⟩,q _ _ (a30.refl H) i10⟩ (g32 hl.1 hl.2)
  |_=>cases e
 |tup a =>
  cases dy with
  |int j =>
   obtain⟨hl,e⟩:=g30 e;cases e;cases hy.j30;obtain⟨p,xs,rfl,h1,h2⟩:=hx.y20;exact P91 pins s σ H _ _ v u Q I rx ry ⟨p,j,xs,rfl,rfl,(a10 zA H).sqT h1,hl.1,hl.2.2,e40 (by rw[h2.length];exact hl.2.1),tupQ st (h2.rep _) q⟩
  |_=>cases e
 |lst a =>
  cases dy with
  |int j =>
   obtain⟨hl,e⟩:=g30 e;cases e;cases hy.j30;obtain⟨p,xs,rfl,h1,h2⟩:=hx.a01;exact R51 pins s σ H _ _ v u Q I rx ry ⟨p,j,xs,rfl,rfl,h1.same (a10 zA H),by omega,by omega,e40 (by rw[h2.length,Ø5];exact hl.2.1),λr hr=>q _ _ (a30.new _ hr) (p70 st (h2.rep _) hr)⟩
  |_=>cases e
 |_=>cases e
theorem E71:OpR X (Ä7 .FloorDiv) (rD2 X.K (T90 .fdiv)):=by
 intro pins s σ H x y v u Q I rx ry h;obtain⟨zA,z,dx,dy,w,st,hx,hy,e,q⟩:=h;cases dx with
 |int i =>
  cases dy with
  |int j =>
   obtain⟨hl,e⟩:=g30 e;cases e;cases hx.j30;cases hy.j30;obtain⟨t,rfl⟩:=rx;obtain⟨t',rfl⟩:=ry;refine floordiv_int ∅ ⟨.int (i / j),H,I.tok _,⟨s.toks,?_⟩,q _ _ (a30.refl H) i10⟩ (.inl (p91 hl.2))
   rw[Int.fdiv_eq_ediv_of_nonneg _ ∅]
  |_=>cases e
 |_=>cases e
theorem R91:OpR X (Ä7 .Mod) (rD2 X.K (T90 .mod)):=by
 intro pins s σ H x y v u Q I rx ry h;obtain⟨zA,z,dx,dy,w,st,hx,hy,e,q⟩:=h;cases dx with
 |int i =>
  cases dy with
  |int j =>
   obtain⟨hl,e⟩:=g30 e;cases e;cases hx.j30;cases hy.j30;exact c62 pins s σ H _ _ v u Q I rx ry ⟨i,j,rfl,rfl,hl,q _ _ (a30.refl H) i10⟩
  |_=>cases e
 |_=>cases e
theorem S01:OpR X (Ä7 .Pow) (rD2 X.K (T90 .pow)):=by
 intro pins s σ H x y v u Q I rx ry h;obtain⟨zA,z,dx,dy,w,st,hx,hy,e,q⟩:=h;cases dx with
 |int i =>
  cases dy with
  |int j =>
   obtain⟨hl,e⟩:=g30 e;cases e;cases hx.j30;cases hy.j30;exact c72 pins s σ H _ _ v u Q I rx ry ⟨i,j,rfl,rfl,⟨hl.1,by omega,hl.2.2⟩,q _ _ (a30.refl H) i10⟩
  |_=>cases e
 |_=>cases e
def opB:Bi->Operator
 |.add=>.Add | .sub=>.Sub | .mul=>.Mult | .fdiv=>.FloorDiv | .mod=>.Mod | .pow=>.Pow
theorem opD(o:Bi):OpR X (Ä7 (opB o)) (rD2 X.K (T90 o)):=by
 cases o
 ·exact R61
 ·exact R71
 ·exact R81
 ·exact E71
 ·exact R91
 ·exact S01
mutual
noncomputable def toP:D->PyData
 |.non=>.none|.bl b=>.bool b|.int i=>.int i|.str x=>.str x|.tup l=>.tuple (L50 l)|.lst l=>.list (L50 l)|.dct=>.none
noncomputable def L50:List D->List PyData
 |[]=>[]|x::r=>toP x::L50 r
end
end
end Q
namespace Q
open PySem L2 PySem.Spec PyProof.Rows
variable [TB:Tb]
mutual
theorem O40:∀ a b:D,u30 a=true->u30 b=true->Ú4 (toP a) (toP b)=eqD a b
 |.non,b,_,h=>by cases b <;> first | rfl | (simp[u30] at h)
 |.bl _,b,_,h=>by cases b <;> first | rfl | (simp[u30] at h)
 |.int _,b,_,h=>by cases b <;> first | rfl | (simp[u30] at h)
 |.str _,b,_,h=>by cases b <;> first | rfl | (simp[u30] at h)
 |.tup l,b,ha,h=>by
  cases b with
  |tup q =>
   exact U30 l q (by simpa [u30] using ha) (by simpa [u30] using h)
  |dct=>simp[u30] at h|_=>rfl
 |.lst l,b,ha,h=>by
  cases b with
  |lst q =>
   exact U30 l q (by simpa [u30] using ha) (by simpa [u30] using h)
  |dct=>simp[u30] at h|_=>rfl
 |.dct,_,h,_=>by simp[u30] at h
theorem U30:∀ a b:List D,e20 a=true->e20 b=true->PyData.eqvAll (L50 a) (L50 b)=Q91 a b
 |[],[],_,_=>rfl|[],_::_,_,_=>rfl|_::_,[],_,_=>rfl
 |x::r,y::q,ha,hb=>by
  simp only[e20,Â] at ha hb;simp only[L50,PyData.eqvAll,Q91];rw[O40 x y ha.1 hb.1,U30 r q ha.2 hb.2]
end
mutual
theorem w40:∀ a:D,u30 a=true->(toP a).canLay0=true
 |.non,_=>rfl|.bl _,_=>rfl|.int _,_=>rfl|.str _,h=>h|.tup l,h=>q60 l h|.lst l,h=>q60 l h|.dct,h=>by cases h
theorem q60:∀ a:List D,e20 a=true->PyData.canLayAll0 (L50 a)=true
 |[],_=>rfl
 |x::r,h=>by
  simp only[e20,Â] at h;simp only[L50,PyData.canLayAll0,w40 x h.1,q60 r h.2,Bool.and_self]
end
mutual
theorem I90:∀ a:D,(toP a).depth=deep a
 |.non=>rfl|.bl _=>rfl|.int _=>rfl|.str _=>rfl|.tup l=>congrArg (· + 1) (J00 l)|.lst l=>congrArg (· + 1) (J00 l)|.dct=>rfl
theorem J00:∀ a:List D,Ñ6 (L50 a)=g00 a
 |[]=>rfl
 |x::r=>by
  simp only[L50,Ñ6,g00];rw[I90 x,J00 r]
end
def h81(h:ë)(u:Ã)(d:D):Prop:=u30 d=true/\∃ as,Reads h u (toP d) as
def d60(h:ë)(us:List Ã)(ds:List D):Prop:=e20 ds=true/\∃ as,ReadsAll h us (L50 ds) as
section
variable {X:Cx}{pins:List (Æ × Obj)}{σ:L2.St}{H:Hp}{s:Å}
mutual
theorem i20(I:Inv X pins σ H s):∀ {d:D}{v:V}{u:Ã},Hd X.K H d v->RelV v u->u30 d=true->∃ as,Reads s.heap u (toP d) as
 |.non,_,_,h,r,_=>by cases h.D52;cases r;exact⟨_,.none⟩
 |.bl b,_,_,h,r,_=>by cases h.bl_;cases r;exact⟨_,.bool b⟩
 |.int i,_,_,h,r,_=>by cases h.j30;obtain⟨t,rfl⟩:=r;exact⟨_,.int i t⟩
 |.str x,_,_,h,r,_=>by cases h.D62;obtain⟨t,rfl⟩:=r;exact⟨_,.str x t⟩
 |.tup l,_,_,h,r,f=>by
  obtain⟨a,xs,rfl,h1,h2⟩:=h.y20;cases r;obtain⟨its,rv,⟨o,e1,e2,n,e3⟩,_⟩:=I.tuple h1;obtain⟨as,ra⟩:=A30 I h2 rv f;exact⟨_,.tuple e1 e2 e3 (by simpa using ra)⟩
 |.lst l,_,_,h,r,f=>by
  obtain⟨a,xs,rfl,h1,h2⟩:=h.a01;cases r;obtain⟨its,rv,⟨o,n,e1,e2,_,e3⟩,_⟩:=I.list h1.sq;obtain⟨as,ra⟩:=A30 I h2 rv f;exact⟨_,.list e1 e2 e3 (by simpa using ra)⟩
 |.dct,_,_,_,_,f=>by cases f
theorem A30(I:Inv X pins σ H s):∀ {ds:List D}{vs:List V}{us:List Ã},HdA X.K H ds vs->Vals vs us->e20 ds=true->∃ as,ReadsAll s.heap us (L50 ds) as
 |[],_,_,h,r,_=>by cases h.e30;cases r;exact⟨_,.nil⟩
 |d::ds,_,_,h,r,f=>by
  obtain⟨x,xs,rfl,h1,h2⟩:=h.b90;cases r with
  |cons r1 r2 =>
   simp only[e20,Â] at f;obtain⟨_,a1⟩:=i20 I h1 r1 f.1;obtain⟨_,a2⟩:=A30 I h2 r2 f.2;exact⟨_,.cons a1 a2⟩
end
end
theorem m60(h:okD d=true):u30 d=true/\SeqAt.shaped (toP d)=true:=by
 unfold okD at h;rw[Â,decide_eq_true_eq] at h;refine⟨h.1,?_⟩;unfold SeqAt.shaped;rw[w40 d h.1,I90,È5,decide_eq_true_eq];omega
section
variable {X:Cx}
theorem g42(h:eqE a b=some c):∃ l,a=.tup l/\b=.tup []/\c=l.isEmpty:=by
 unfold eqE at h;split at h
 ·cases h;exact⟨_,rfl,rfl,rfl⟩
 ·cases h
theorem g52(hu:X.A.units + 64 < Ä6):OpR X (ÿ .Eq) (rD2 X.K λa b=>(eqQ a b).map λc=>.d (.bl c)):=by
 intro pins s σ H x y v u Q I rx ry h;obtain⟨zA,z,dx,dy,w,st,hx,hy,e,q⟩:=h;unfold eqQ at e;dsimp only at e;split at e
 ·rename_i ok;cases e;rw[Â] at ok;obtain⟨f1,s1⟩:=m60 ok.1;obtain⟨f2,s2⟩:=m60 ok.2;obtain⟨as,r1⟩:=i20 I (hx.same (a10 zA H)) rx f1;obtain⟨bs,r2⟩:=i20 I (hy.same (a10 zA H)) ry f2;exact eq_dataH r1 r2 s1 s2 hu ⟨.bl _,H,I,rfl,by rw[O40 dx dy f1 f2];exact q _ _ (a30.refl H) h30⟩
 ·obtain⟨c,h1,h2⟩:=È.mp e;obtain⟨l,rfl,rfl,rfl⟩:=g42 h1;subst h2;obtain⟨a,xs,rfl,k1,k2⟩:=hx.y20;obtain⟨b,ys,rfl,k3,k4⟩:=hy.y20;cases k4.e30;cases rx;cases ry;obtain⟨its,rv,ht,_⟩:=I.tuple ((a10 zA H).sqT k1);obtain⟨iu,ru,hu2,_⟩:=I.tuple ((a10 zA H).sqT k3);cases ru;have e1:its.length=l.length:=by rw[← rv.length,k2.length]
  refine SeqAt.eq_tupleAt (e:=λ_=>true) ht hu2 ∅ (λj _ h2=>absurd h2 (Ô2 j)) ⟨.bl _,H,I,rfl,?_⟩
  have e2:((Ú (min its.toArray.size ([]:List Ã).toArray.size)).all (λ_=>true)&&its.toArray.size == ([]:List Ã).toArray.size)=l.isEmpty:=by
   simp only[Õ,Ã9,Nat.min_zero,List.range_zero,all_nil,È5,e1];cases l <;> rfl
  rw[e2];exact q _ _ (a30.refl H) h30
theorem g62(hu:X.A.units + 64 < Ä6):OpR X (ÿ .NotEq) (rD2 X.K λa b=>(eqO a b).map λc=>.d (.bl !c)):=by
 intro pins s σ H x y v u Q I rx ry h;obtain⟨zA,z,dx,dy,w,st,hx,hy,e,q⟩:=h;unfold eqO at e;dsimp only at e;split at e
 ·rename_i ok;cases e;rw[Â] at ok;obtain⟨f1,s1⟩:=m60 ok.1;obtain⟨f2,s2⟩:=m60 ok.2;obtain⟨as,r1⟩:=i20 I (hx.same (a10 zA H)) rx f1;obtain⟨bs,r2⟩:=i20 I (hy.same (a10 zA H)) ry f2;exact ne_dataH r1 r2 s1 s2 hu ⟨.bl _,H,I,rfl,by rw[O40 dx dy f1 f2];exact q _ _ (a30.refl H) h30⟩
 ·cases e
theorem S11(hu:X.A.units + 64 < Ä6):OpR X (ÿ .NotEq) (rD2 X.K λa b=>(neO a b).map λc=>.d (.bl c)):=by
 intro pins s σ H x y v u Q I rx ry h;obtain⟨zA,z,dx,dy,w,st,hx,hy,e,q⟩:=h;unfold neO at e;dsimp only at e;split at e
 ·cases e;unfold Hd at hx;obtain⟨a,kvs,rfl,h1⟩:=hx;obtain⟨b,xs,rfl,h2,_⟩:=hy.y20;exact Q31 hu pins s σ H _ _ v u Q I rx ry ⟨a,b,kvs,xs,rfl,rfl,(p00 h1).1,(a10 zA H).sqT h2,q _ _ (a30.refl H) h30⟩
 ·refine g62 hu pins s σ H _ _ v u Q I rx ry ⟨zA,z,dx,dy,w,st,hx,hy,?_,q⟩;rw[← e,Option.map_map];rfl
end
theorem J10(h:Z61 l=true):e20 l=true/\g00 l<=39:=by
 unfold Z61 at h;rw[Â,decide_eq_true_eq] at h;exact h
theorem J20(h:okD d=true):deep d<=40:=by
 unfold okD at h;rw[Â,decide_eq_true_eq] at h;exact h.2
theorem A40(x:D)(fx:u30 x=true):∀ l:List D,e20 l=true->((L50 l).any λy=>Ú4 y (toP x))=memD x l
 |[],_=>rfl
 |y::r,h=>by
  simp only[e20,Â] at h;show(Ú4 (toP y) (toP x) || (L50 r).any λy=>Ú4 y (toP x))=(eqD y x || memD x r);rw[O40 y x h.1 fx,A40 x fx r h.2]
section
variable {X:Cx}
theorem J30(h:j41 x l=some b):okD x=true/\Z61 l=true/\b=memD x l:=by
 unfold j41 at h;split at h
 ·rename_i ok;rw[Â] at ok;cases h;exact⟨ok.1,ok.2,rfl⟩
 ·cases h
theorem room_in{A:ù}(hu:A.units + 64 < Ä6){l:List D}{x:D}(h:okD x=true):A.units + 1 + min (Ñ6 (L50 l)) (toP x).depth < cLine:=by
 have h1:=J20 h;have h2:min (Ñ6 (L50 l)) (toP x).depth<=(toP x).depth:=Nat.min_le_right _ _;have h3:=I90 x;omega
theorem S21(hu:X.A.units + 64 < Ä6):OpR X (ÿ .In) (rD2 X.K λa b=>(C80 .mem a b).map λc=>.d (.bl c)):=by
 intro pins s σ H x y v u Q I rx ry h;obtain⟨zA,z,dx,dy,w,st,hx,hy,e,q⟩:=h;cases dy with
 |tup l =>
  obtain⟨b,e1,e2⟩:=È.mp e;subst e2;obtain⟨o1,o2,rfl⟩:=J30 e1;obtain⟨f2,_⟩:=J10 o2;obtain⟨f1,_⟩:=m60 o1;obtain⟨as,r1⟩:=i20 I (hx.same (a10 zA H)) rx f1;obtain⟨bs,r2⟩:=i20 I (hy.same (a10 zA H)) ry (by simpa [u30] using f2)
  exact SeqAt.in_tuple_reads r2 r1 (q60 l f2) (w40 dx f1) (room_in hu o1) ⟨.bl _,H,I,rfl,by rw[A40 dx f1 l f2];exact q _ _ (a30.refl H) h30⟩
 |lst l =>
  obtain⟨b,e1,e2⟩:=È.mp e;subst e2;obtain⟨o1,o2,rfl⟩:=J30 e1;obtain⟨f2,_⟩:=J10 o2;obtain⟨f1,_⟩:=m60 o1;obtain⟨as,r1⟩:=i20 I (hx.same (a10 zA H)) rx f1;obtain⟨bs,r2⟩:=i20 I (hy.same (a10 zA H)) ry (by simpa [u30] using f2)
  exact SeqAt.in_list_reads r2 r1 (q60 l f2) (w40 dx f1) (room_in hu o1) ⟨.bl _,H,I,rfl,by rw[A40 dx f1 l f2];exact q _ _ (a30.refl H) h30⟩
 |_=>cases e
theorem E81(hu:X.A.units + 64 < Ä6):OpR X (ÿ .NotIn) (rD2 X.K λa b=>(C80 .nmem a b).map λc=>.d (.bl c)):=by
 intro pins s σ H x y v u Q I rx ry h;obtain⟨zA,z,dx,dy,w,st,hx,hy,e,q⟩:=h;cases dy with
 |tup l =>
  obtain⟨b,e1,e2⟩:=È.mp e;subst e2;obtain⟨b',e3,rfl⟩:=È.mp e1;obtain⟨o1,o2,rfl⟩:=J30 e3;obtain⟨f2,_⟩:=J10 o2;obtain⟨f1,_⟩:=m60 o1;obtain⟨as,r1⟩:=i20 I (hx.same (a10 zA H)) rx f1;obtain⟨bs,r2⟩:=i20 I (hy.same (a10 zA H)) ry (by simpa [u30] using f2)
  exact SeqAt.notIn_tuple_reads r2 r1 (q60 l f2) (w40 dx f1) (room_in hu o1) ⟨.bl _,H,I,rfl,by rw[A40 dx f1 l f2];exact q _ _ (a30.refl H) h30⟩
 |lst l =>
  obtain⟨b,e1,e2⟩:=È.mp e;subst e2;obtain⟨b',e3,rfl⟩:=È.mp e1;obtain⟨o1,o2,rfl⟩:=J30 e3;obtain⟨f2,_⟩:=J10 o2;obtain⟨f1,_⟩:=m60 o1;obtain⟨as,r1⟩:=i20 I (hx.same (a10 zA H)) rx f1;obtain⟨bs,r2⟩:=i20 I (hy.same (a10 zA H)) ry (by simpa [u30] using f2)
  exact SeqAt.notIn_list_reads r2 r1 (q60 l f2) (w40 dx f1) (room_in hu o1) ⟨.bl _,H,I,rfl,by rw[A40 dx f1 l f2];exact q _ _ (a30.refl H) h30⟩
 |_=>cases e
end
end Q
namespace Q
open PySem L2 PySem.Spec PyProof.Rows
variable [TB:Tb]
def v62(A:ù)(s:Å)(v u:Ã)(b:Bool):Prop:=∀ (P:ß) (w:ò) (E:Ã->Å->Prop) (Q:Ã->Å->Prop),Q (.bool b) s->Ó (Ü P w) A (richCompare .Lt v u) Q E s
section
open PySem.SeqAt
open PySem.AutoSeq1 (wpAny_loadPart')
open PySem.MeetsSeq PySem.MeetsSeq2 PySem.MeetsSeq3
inductive Lx (A:Around) (s:Shared):List Value->List Value->Bool->Prop
 |nn:Lx A s [] [] false
 |nc {u us}:Lx A s [] (u::us) true
 |cn {v vs}:Lx A s (v::vs) [] false
 |eq {v u vs us b}:EqAt A s v u true->Lx A s vs us b->Lx A s (v::vs) (u::us) b
 |ne {v u vs us b}:EqAt A s v u false->v62 A s v u b->Lx A s (v::vs) (u::us) b
theorem A50(l b:Æ)(items items2:Array Ã)(n n2:Nat)(dd dd2:Option Æ)(sl sl2:Array (Option Ã))(c:Bool) :
  Meets (Ä2.«tuple.__lt__» ⟨[.ref l,.ref b],[]⟩)
   (λA R s=>s.heap.get? l=some { cls:=.type "tuple",dict:=dd,data:=.seq items n,slots:=sl }/\s.heap.get? b=some { cls:=.type "tuple",dict:=dd2,data:=.seq items2 n2,slots:=sl2 } /\
    Lx A.in1 s items.toList items2.toList c/\R (.ok (.ret (.bool c))) s) :=
 .of_wp λprog w A R s h=>by
  obtain⟨hp,g,d,tk,os⟩:=s;obtain⟨hl,hb,hx,h⟩:=h;have f2:=Ú7
  wp_walk using Ã6 hl,Ã6 hb,wpAny_forIn_list _ (λrest b s'=>b.1=none/\s'=⟨hp,g,d,tk,os⟩/\∃ (vs ws:List Ã),rest=vs.zip ws /\
   vs.length + items2.size=ws.length + items.size/\Lx A.in1 ⟨hp,g,d,tk,os⟩ vs ws c) _
  case turn =>
   rintro ⟨y,x⟩ rest b s' ⟨hb',rfl,vs,ws,hz,hlen,hR⟩;cases hR with
   |nn=>rw[Ø0] at hz;cases hz
   |nc=>rw[Ø0] at hz;cases hz
   |cn=>rw[List.zip_nil_right] at hz;cases hz
   |eq he hr =>
    rw[È7] at hz;injection hz with hyx hrest;injection hyx with hy hx';subst hy hx';simp only[Ô] at hlen;refine À (he prog w _ _ ?_)
    wp_walk
    exact⟨rfl,rfl,_,_,hrest,by omega,hr⟩
   |ne he hr =>
    rw[È7] at hz;injection hz with hyx hrest;injection hyx with hy hx';subst hy hx';refine À (he prog w _ _ ?_);have hri:=λE Q q=>hr prog w E Q q
    wp_walk using hri
    exact⟨_,rfl,by simpa using h⟩
  case fin =>
   rintro ⟨b1,b2⟩ s' ⟨hb',rfl,vs,ws,hz,hlen,hR⟩;simp only at hb';subst hb';have hv:c=decide (items.size < items2.size):=by
    cases hR with
    |nn=>simp only[Ã9] at hlen;exact(decide_eq_false ∅).symm|nc=>simp only[Ã9,Ô] at hlen;exact(decide_eq_true ∅).symm|cn=>simp only[Ã9,Ô] at hlen;exact(decide_eq_false ∅).symm|eq he hr=>rw[È7] at hz;cases hz
    |ne he hr=>rw[È7] at hz;cases hz
   rw[hv] at h
   wp_walk
   exact⟨_,rfl,by simpa [tupleCompareSizes] using h⟩
  case h =>
   exact⟨rfl,rfl,items.toList,items2.toList,rfl,by simp;omega,hx⟩
end
theorem q01(hl:Ï4 s.heap l i1)(hb:Ï4 s.heap b i2)(hu:A.units < Ä6)(hx:Lx A.in1 s i1.toList i2.toList c):v62 A s (.ref l) (.ref b) c:=by
 intro P w E Q h;obtain⟨⟨cls,dd,data,sl⟩,ho,hc,n,hd⟩:=id hl;obtain⟨⟨cls2,dd2,data2,sl2⟩,ho2,hc2,n2,hd2⟩:=id hb;simp only at hc hd hc2 hd2;subst hc hd hc2 hd2;exact richCompare_meets_room (op:=.Lt) ⟨_,ho,rfl⟩ ⟨_,ho2,rfl⟩ Ñ5 Ü5 (Û8 _ _) (A50 l b i1 i2 n n2 dd dd2 sl sl2 c)
  ⟨ho,ho2,hx,show Ç7 c≠Ó2/\Q (.bool c) s from⟨(λx=>nomatch x),h⟩⟩ hu
theorem g72(ha:h81 s.heap v a)(hb:h81 s.heap u b)(hu:A.units + deep a < Ä6):Õ4 A s v u (eqD a b):=by
 obtain⟨f1,as,r1⟩:=ha;obtain⟨f2,bs,r2⟩:=hb;rw[← O40 a b f1 f2];have h:=I90 a;have h2:min (toP a).depth (toP b).depth<=(toP a).depth:=Nat.min_le_left _ _;exact SeqAt.eqAt_reads (toP a) (toP b) A s v u as bs r1 r2 (w40 a f1) (w40 b f2) ∅
theorem d60.b90(x:d60 h us (d::ds)):∃ u r,us=u::r/\h81 h u d/\d60 h r ds:=by
 obtain⟨f,as,r⟩:=x;simp only[e20,Â] at f;cases r with
 |cons r1 r2=>exact⟨_,_,rfl,⟨f.1,_,r1⟩,f.2,_,r2⟩
theorem d60.e30(x:d60 h us []):us=[]:=by
 obtain⟨_,as,r⟩:=x;cases r;rfl
theorem in1_units(A:ù):A.in1.units=A.units + 1:=rfl
theorem S31:∀ (n:Nat) {A:ù}{s:Å},
  (∀ (a b:D) (v u:Ã) (c:Bool),deep a<=n->h81 s.heap v a->h81 s.heap u b->ltD a b=some c->A.units + n < Ä6->v62 A s v u c) /\
  (∀ (a b:List D) (vs us:List Ã) (c:Bool),g00 a < n->d60 s.heap vs a->d60 s.heap us b->y81 a b=some c->A.units + n < Ä6->Lx A.in1 s vs us c):=by
 intro n
 induction n with
 |zero =>
  intro A s;refine⟨λa b v u c hd ha hb e hu=>?_,λa b vs us c hd=>absurd hd (Ô2 _)⟩;cases a with
  |int i =>
   cases b with
   |int j =>
    cases e;obtain⟨_,_,r1⟩:=ha;obtain⟨_,_,r2⟩:=hb;cases r1;cases r2;exact λP w E Q h=>HT.Y90 A s i _ j _ P w E Q h
   |_=>cases e
  |tup l=>simp[deep] at hd|_=>cases e
 |succ n ih =>
  have rows:∀ {A:ù}{s:Å} (a b:List D) (vs us:List Ã) (c:Bool),g00 a < n + 1->d60 s.heap vs a->d60 s.heap us b->y81 a b=some c->A.units + (n + 1) < Ä6->Lx A.in1 s vs us c:=by
   intro A s a
   induction a with
   |nil =>
    intro b vs us c _ ha hb e hu;cases ha.e30;cases b with
    |nil=>cases hb.e30;cases e;exact .nn
    |cons y q=>obtain⟨u,r,rfl,_⟩:=hb.b90;cases e;exact .nc
   |cons x r ihr =>
    intro b vs us c hd ha hb e hu;obtain⟨v,vs',rfl,a1,a2⟩:=ha.b90;cases b with
    |nil=>cases hb.e30;cases e;exact .cn
    |cons y q =>
     obtain⟨u,us',rfl,b1,b2⟩:=hb.b90;simp only[g00] at hd;have d1:deep x<=n:=Nat.le_of_lt_succ (Ã0 (Nat.le_max_left _ _) hd);have d2:g00 r < n + 1:=Ã0 (Nat.le_max_right _ _) hd;have hu1:A.in1.units + n < cLine:=by rw[in1_units];omega
     have he:=g72 (A:=A.in1) a1 b1 ∅
     simp only[y81] at e;cases hq:eqD x y with
     |true =>
      rw[hq] at he e;exact .eq he (ihr q vs' us' c d2 a2 b2 (by simpa using e) hu)
     |false =>
      rw[hq] at he e;exact .ne he ((ih (A:=A.in1) (s:=s)).1 x y v u c d1 a1 b1 (by simpa using e) hu1)
  intro A s;refine⟨λa b v u c hd ha hb e hu=>?_,rows⟩;cases a with
  |int i =>
   cases b with
   |int j =>
    cases e;obtain⟨_,_,r1⟩:=ha;obtain⟨_,_,r2⟩:=hb;cases r1;cases r2;exact λP w E Q h=>HT.Y90 A s i _ j _ P w E Q h
   |_=>cases e
  |tup l =>
   cases b with
   |tup q =>
    obtain⟨f1,as,r1⟩:=ha;obtain⟨f2,bs,r2⟩:=hb;simp only[deep] at hd;cases r1 with
    |tuple k1 k2 k3 k4 =>
     cases r2 with
     |tuple m1 m2 m3 m4 =>
      exact q01 ⟨_,k1,k2,_,k3⟩ ⟨_,m1,m2,_,m3⟩ ∅ (rows l q _ _ c ∅ ⟨by simpa [u30] using f1,_,k4⟩ ⟨by simpa [u30] using f2,_,m4⟩ e hu)
   |_=>cases e
  |_=>cases e
section
variable {X:Cx}
theorem g82(h:ltO a b=some c):okD a=true/\okD b=true/\ltD a b=some c:=by
 unfold ltO at h;split at h
 ·rename_i ok;rw[Â] at ok;exact⟨ok.1,ok.2,h⟩
 ·cases h
theorem g92(hu:X.A.units + 64 < Ä6):OpR X (ÿ .Lt) (rD2 X.K λa b=>(C80 .lt a b).map λc=>.d (.bl c)):=by
 intro pins s σ H x y v u Q I rx ry h;obtain⟨zA,z,dx,dy,w,st,hx,hy,e,q⟩:=h;obtain⟨b,e1,e2⟩:=È.mp e;subst e2;obtain⟨o1,o2,e3⟩:=g82 (show ltO dx dy=some b from e1);obtain⟨f1,_⟩:=m60 o1;obtain⟨f2,_⟩:=m60 o2;obtain⟨as,r1⟩:=i20 I (hx.same (a10 zA H)) rx f1;obtain⟨bs,r2⟩:=i20 I (hy.same (a10 zA H)) ry f2;exact(S31 40 (A:=X.A) (s:=s)).1 dx dy v u b (J20 o1) ⟨f1,as,r1⟩ ⟨f2,bs,r2⟩ e3 ∅ _ _ _ _ ⟨.bl b,H,I,rfl,q _ _ (a30.refl H) h30⟩
theorem A60{K:Á}{H:Hp}:∀ {l:List D}{ns:List Int}{vs:List V},m20 l=some ns->HdA K H l vs->vs=ns.map V.int/\l=ns.map D.int
 |[],_,_,e,h=>by cases e;rw[h.e30];exact⟨rfl,rfl⟩
 |.int i::r,_,_,e,h=>by
  obtain⟨ms,e1,rfl⟩:=È.mp e;obtain⟨x,xs,rfl,h1,h2⟩:=h.b90;cases h1.j30;obtain⟨rfl,rfl⟩:=A60 e1 h2;exact⟨rfl,rfl⟩
 |.non::_,_,_,e,_=>by cases e
 |.bl _::_,_,_,e,_=>by cases e
 |.str _::_,_,_,e,_=>by cases e
 |.tup _::_,_,_,e,_=>by cases e
 |.lst _::_,_,_,e,_=>by cases e
 |.dct::_,_,_,e,_=>by cases e
theorem h02(hu:X.A.units + 64 < Ä6):OpR X (ÿ .LtE) (rD2 X.K λa b=>(C80 .le a b).map λc=>.d (.bl c)):=by
 intro pins s σ H x y v u Q I rx ry h;obtain⟨zA,z,dx,dy,w,st,hx,hy,e,q⟩:=h;cases dx with
 |int i =>
  cases dy with
  |int j =>
   cases e;cases hx.j30;cases hy.j30;exact s82 pins s σ H _ _ v u Q I rx ry ⟨i,j,rfl,rfl,q _ _ (a30.refl H) h30⟩
  |_=>cases e
 |tup a =>
  cases dy with
  |tup b =>
   obtain⟨c,e1,e2⟩:=È.mp e;subst e2;obtain⟨ns,n1,e1⟩:=Í.mp (show(m20 a).bind _=_ from e1);obtain⟨ms,n2,rfl⟩:=È.mp e1;obtain⟨p,xs,rfl,h1,h2⟩:=hx.y20;obtain⟨p',ys,rfl,h3,h4⟩:=hy.y20;obtain⟨rfl,_⟩:=A60 n1 h2;obtain⟨rfl,_⟩:=A60 n2 h4;exact e42 ∅ pins s σ H _ _ v u Q I rx ry ⟨p,p',ns,ms,rfl,rfl,(a10 zA H).sqT h1,(a10 zA H).sqT h3,q _ _ (a30.refl H) h30⟩
  |_=>cases e
 |_=>cases e
theorem h32:OpR X (ÿ .Gt) (rD2 X.K λa b=>(C80 .gt a b).map λc=>.d (.bl c)):=by
 intro pins s σ H x y v u Q I rx ry h;obtain⟨zA,z,dx,dy,w,st,hx,hy,e,q⟩:=h;cases dx with
 |int i =>
  cases dy with
  |int j =>
   cases e;cases hx.j30;cases hy.j30;exact s92 pins s σ H _ _ v u Q I rx ry ⟨i,j,rfl,rfl,q _ _ (a30.refl H) h30⟩
  |_=>cases e
 |_=>cases e
theorem h42:OpR X (ÿ .GtE) (rD2 X.K λa b=>(C80 .ge a b).map λc=>.d (.bl c)):=by
 intro pins s σ H x y v u Q I rx ry h;obtain⟨zA,z,dx,dy,w,st,hx,hy,e,q⟩:=h;cases dx with
 |int i =>
  cases dy with
  |int j =>
   cases e;cases hx.j30;cases hy.j30;exact t02 pins s σ H _ _ v u Q I rx ry ⟨i,j,rfl,rfl,q _ _ (a30.refl H) h30⟩
  |_=>cases e
 |_=>cases e
def opC:Cm->CmpOp
 |.eq=>.Eq | .ne=>.NotEq | .lt=>.Lt | .le=>.LtE | .gt=>.Gt | .ge=>.GtE | .mem=>.In | .nmem=>.NotIn
theorem a02(hu:X.A.units + 64 < Ä6)(o:Cm):OpR X (ÿ (opC o)) (rD2 X.K λa b=>(C80 o a b).map λc=>.d (.bl c)):=by
 cases o
 ·exact g52 hu
 ·exact S11 hu
 ·exact g92 hu
 ·exact h02 hu
 ·exact h32
 ·exact h42
 ·exact S21 hu
 ·exact E81 hu
theorem HdA.one{K:Á}{H:Hp}{d:D}{xs:List V}(h:HdA K H [d] xs):∃ x,xs=[x]/\Hd K H d x:=by
 obtain⟨x,r,rfl,h1,h2⟩:=h.b90;rw[h2.e30];exact⟨x,rfl,h1⟩
theorem HdA.two{K:Á}{H:Hp}{d e:D}{xs:List V}(h:HdA K H [d,e] xs):∃ x y,xs=[x,y]/\Hd K H d x/\Hd K H e y:=by
 obtain⟨x,r,rfl,h1,h2⟩:=h.b90;obtain⟨y,rfl,h3⟩:=h2.one;exact⟨x,y,rfl,h1,h3⟩
theorem a31{K:Á}{zA:Option Æ}{H:Hp}{d:D}{l:List D}{v:V}(h:Hd K (hz zA H) d v)(e:Z70 d=some l):∃ a xs,v=.ref a/\(SqL K H a xs∨SqT K H a xs)/\HdA K (hz zA H) l xs:=by
 cases d with
 |tup m =>
  cases e;obtain⟨a,xs,rfl,h1,h2⟩:=h.y20;exact⟨a,xs,rfl,.inr ((a10 zA H).sqT h1),h2⟩
 |lst m =>
  cases e;obtain⟨a,xs,rfl,h1,h2⟩:=h.a01;exact⟨a,xs,rfl,.inl (h1.same (a10 zA H)).sq,h2⟩
 |_=>cases e
theorem h52:e60 X (.builtin "len") (rDn X.K (bfD .len)):=by
 intro pins s σ H xs us Q I r h;obtain⟨zA,z,ds,w,st,hx,e,q⟩:=h
 match ds,e with
 |[d],e =>
  obtain⟨l,e1,rfl⟩:=È.mp (show(Z70 d).map _=some w from e);obtain⟨x,rfl,h1⟩:=hx.one;obtain⟨a,ys,rfl,h2,h3⟩:=a31 h1 e1;exact M60 pins s σ H _ us Q I r ⟨a,ys,rfl,h2,by rw[h3.length];exact q _ _ (a30.refl H) i10⟩
theorem E91:e60 X (.type "tuple") (rDn X.K (bfD .tuple)):=by
 intro pins s σ H xs us Q I r h;obtain⟨zA,z,ds,w,st,hx,e,q⟩:=h
 match ds,e with
 |[d],e =>
  obtain⟨l,e1,rfl⟩:=È.mp (show(Z70 d).map _=some w from e);obtain⟨x,rfl,h1⟩:=hx.one;obtain⟨a,ys,rfl,h2,h3⟩:=a31 h1 e1;refine G70 pins s σ H _ us Q I r ⟨a,ys,rfl,?_⟩;rcases h2 with h2 | h2
  ·refine .inl ⟨h2,λp hp=>q _ _ (a30.new _ hp) (y91 (Hd.tup ((st.same (a30.new _ hp)).R31 (SqT.of b20)) (h3.same (j40 (a30.new _ hp)))))⟩
  ·exact .inr ⟨h2,q _ _ (a30.refl H) (y91 (Hd.tup (st.R31 h2) h3))⟩
theorem S41:e60 X (.type "list") (rDn X.K (bfD .list)):=by
 intro pins s σ H xs us Q I r h;obtain⟨zA,z,ds,w,st,hx,e,q⟩:=h
 match ds,e with
 |[d],e =>
  obtain⟨l,e1,rfl⟩:=È.mp (show(Z70 d).map _=some w from e);obtain⟨x,rfl,h1⟩:=hx.one;obtain⟨a,ys,rfl,h2,h3⟩:=a31 h1 e1;exact M70 pins s σ H _ us Q I r ⟨a,ys,rfl,h2,λp hp=>q _ _ (a30.new _ hp) (p70 st h3 hp)⟩
theorem q11{K:Á}{H:Hp}:∀ {l:List D}{bs:List Bool}{vs:List V},l.mapM asB=some bs->HdA K H l vs->vs=bs.map V.bl
 |[],_,_,e,h=>by simp at e;subst e;rw[h.e30];rfl
 |x::r,_,_,e,h=>by
  simp only[Õ1,bind,Í] at e;obtain⟨b,e1,bs,e2,e3⟩:=e;cases e3;obtain⟨y,ys,rfl,h1,h2⟩:=h.b90;cases x with
  |bl c=>cases e1;cases h1.bl_;rw[q11 e2 h2];rfl
  |_=>cases e1
theorem h62(hc:X.calm=true):e60 X (.builtin "all") (rDn X.K (bfD .all)):=by
 intro pins s σ H xs us Q I r h;obtain⟨zA,z,ds,w,st,hx,e,q⟩:=h
 match ds,e with
 |[.lst l],e =>
  obtain⟨bs,e1,rfl⟩:=È.mp (show(l.mapM asB).map _=some w from e);obtain⟨x,rfl,h1⟩:=hx.one;obtain⟨a,ys,rfl,h2,h3⟩:=h1.a01;rw[q11 e1 h3] at h2;exact B31 hc pins s σ H _ us Q I r ⟨a,bs,rfl,(h2.same (a10 zA H)).sq,q _ _ (a30.refl H) h30⟩
theorem a41:∀ {ns:List Int}{vs:List Ã},Vals (ns.map V.int) vs->∃ xs:List (Int × Tok),vs=xs.map (λp=>.int p.1 p.2)/\xs.map (·.1)=ns
 |[],_,h=>by cases h;exact⟨[],rfl,rfl⟩
 |n::r,_,h=>by
  cases h with
  |cons h1 h2 =>
   obtain⟨t,rfl⟩:=h1;obtain⟨xs,rfl,e⟩:=a41 h2;exact⟨(n,t)::xs,rfl,by rw[Ç0,e]⟩
theorem F01(hc:X.calm=true):e60 X (.builtin "sum") (λxs H Q=>∃ (a:Æ) (ns:List Int),xs=[.ref a]/\(SqL X.K H a (ns.map V.int)∨SqT X.K H a (ns.map V.int))/\Q (.int ns.sum) H):=by
 intro pins s σ H xs us Q I r h;obtain⟨a,ns,rfl,hq,q⟩:=h;obtain⟨u,rfl,rx⟩:=vals1 r;cases rx;have fin:∀ {its:List Ã},Vals (ns.map V.int) its->∃ xs:Array (Int × Tok),its.toArray=intItems xs/\preSum (numAt xs) xs.size=ns.sum:=λ{its} rv=>by
  obtain⟨xs,rfl,e⟩:=a41 rv;exact⟨xs.toArray,by simp[intItems],by rw[preSum_eq,Ê3 (by simp)];simp[e]⟩
 rcases hq with hq | hq
 ·obtain⟨its,rv,p,_⟩:=I.list hq;obtain⟨xs,e1,e2⟩:=fin rv;exact sum_intListG (I.ok.hd hc) (e1 ▸ p.isList) λh' tk t' k=>⟨.int ns.sum,H,I.kept k,by rw[e2];exact⟨_,rfl⟩,q⟩
 ·obtain⟨its,rv,p,_⟩:=I.tuple hq;obtain⟨xs,e1,e2⟩:=fin rv;exact W.ktm_sumG (I.ok.hd hc) (e1 ▸ p) λh' tk t' k=>⟨.int ns.sum,H,I.kept k,by rw[e2];exact⟨_,rfl⟩,q⟩
theorem K21{K:Á}{H:Hp}:∀ {l:List D}{i:Int}{vs:List V},g02 l=some i->HdA K H l vs->∃ ns:List Int,vs=ns.map V.int/\ns.sum=i
 |[],_,_,e,h=>by cases e;rw[h.e30];exact⟨[],rfl,rfl⟩
 |.int j::r,_,_,e,h=>by
  obtain⟨k,e1,rfl⟩:=È.mp (show(g02 r).map _=_ from e);obtain⟨v,q,rfl,h1,h2⟩:=h.b90;obtain⟨ns,rfl,e2⟩:=K21 e1 h2;cases h1.j30;exact⟨j::ns,rfl,by rw[List.sum_cons,e2]⟩
theorem h72(hc:X.calm=true):e60 X (.builtin "sum") (rDn X.K (bfD .sum)):=by
 intro pins s σ H xs us Q I r h;obtain⟨zA,z,ds,w,st,hx,e,q⟩:=h
 match ds,e with
 |[d],e =>
  obtain⟨i,e1,rfl⟩:=È.mp (show((Z70 d).bind g02).map _=some w from e);obtain⟨l,e2,e3⟩:=Í.mp e1;obtain⟨x,rfl,h1⟩:=hx.one;obtain⟨a,ys,rfl,h2,h3⟩:=a31 h1 e2;obtain⟨ns,rfl,rfl⟩:=K21 e3 h3;exact F01 hc pins s σ H _ us Q I r ⟨a,ns,rfl,h2,q _ _ (a30.refl H) (show Hd X.K (hz zA H) _ _ from Hd.int)⟩
theorem F11(hc:X.calm=true):e60 X (.builtin "any") (λxs H Q=>∃ (a:Æ) (bs:List Bool),xs=[.ref a]/\SqL X.K H a (bs.map V.bl)/\Q (.bl (bs.any id)) H):=by
 intro pins s σ H xs us Q I r h;obtain⟨a,bs,rfl,hq,q⟩:=h;obtain⟨u,rfl,rx⟩:=vals1 r;cases rx;obtain⟨its,rv,pl,hz⟩:=I.list hq;have hlt:a < s.heap.objs.size:=by obtain⟨_,e,_⟩:=pl.isList;exact á e
 have hlen:its.length=bs.length:=by have:=rv.length;simpa using this.symm
 refine call_any_walk (Ñ8 pl.isList ⟨_,_,_,_,_,_,λi=>(bs[i]?).getD false,rfl,Walks.list (by exact I.ok.hd hc) s.heap.objs.size a (ä hlt) its.toArray,⟨⟨_,Ï _ rfl,rfl,rfl⟩,pl.isList.push _⟩,?_,?_⟩)
 ·intro i v s' Q' E' hP hQ;have hP':its[i]?=some v:=by simpa using hP
  have hi:i < bs.length:=by rw[← hlen];exact(Û.mp hP').1
  obtain⟨v',hv',rv'⟩:=rv.get (i:=i) (x:=.bl bs[i]) (by simp[hi])
  rw[hP'] at hv';cases hv';cases (show v=Ç7 _ from rv');exact À3 (by simpa [hi] using hQ)
 ·intro h' tk kp;refine⟨.bl (bs.any id),H,I.kept λb o e=>kp b o (by simpa using ä (á e)) (Ä _ e),?_,q⟩
  show Ç7 _=Ç7 _;rw[Õ,hlen]
  congr 1
  rw[þ,List.any_eq_true,List.any_eq_true];constructor
  ·rintro ⟨i,h1,h2⟩;have hi:i < bs.length:=Ý.mp h1;exact⟨bs[i],À2 hi,by simpa [hi] using h2⟩
  ·rintro ⟨b,h1,h2⟩;obtain⟨i,hi,rfl⟩:=List.getElem_of_mem h1;exact⟨i,Ý.mpr hi,by simpa [hi] using h2⟩
theorem h82(hc:X.calm=true):e60 X (.builtin "any") (rDn X.K (bfD .any)):=by
 intro pins s σ H xs us Q I r h;obtain⟨zA,z,ds,w,st,hx,e,q⟩:=h
 match ds,e with
 |[.lst l],e =>
  obtain⟨bs,e1,rfl⟩:=È.mp (show(l.mapM asB).map _=some w from e);obtain⟨x,rfl,h1⟩:=hx.one;obtain⟨a,ys,rfl,h2,h3⟩:=h1.a01;rw[q11 e1 h3] at h2;exact F11 hc pins s σ H _ us Q I r ⟨a,bs,rfl,(h2.same (a10 zA H)).sq,q _ _ (a30.refl H) h30⟩
theorem h92(hc:X.calm=true):e60 X (.builtin "min") (rDn X.K (bfD .min)):=by
 intro pins s σ H xs us Q I r h;obtain⟨zA,z,ds,w,st,hx,e,q⟩:=h
 match ds,e with
 |[.int i,.int j],e =>
  cases e;obtain⟨x,y,rfl,h1,h2⟩:=hx.two;cases h1.j30;cases h2.j30;exact l11 hc pins s σ H _ us Q I r ⟨i,j,rfl,q _ _ (a30.refl H) i10⟩
theorem a51{K:Á}{H:Hp}:∀ {l:List D}{ns:List Int}{us:List V},m20 l=some ns->HdA K H l us->us=ns.map V.int
 |[],_,_,e,h=>by cases e;exact h.e30
 |d::l,_,_,e,h=>by
  cases d with
  |int i =>
   obtain⟨ms,e1,rfl⟩:=È.mp e;obtain⟨y,q,rfl,h1,h2⟩:=HdA.b90 h;rw[h1.j30,a51 e1 h2];rfl
  |_=>cases e
theorem q21{ns:List Int}{its:List Ã}(rv:Vals (ns.map V.int) its){i:Nat}{v:Ã}(e:its[i]?=some v):i < ns.length/\∃ t,v=.int (ns.getD i 0) t:=by
 have hi:i < ns.length:=by have:=(Û.mp e).1;rw[← rv.length,Ç] at this;exact this
 obtain⟨w',e1,e2⟩:=rv.get (i:=i) (x:=V.int ns[i]) (by simp[hi])
 rw[e] at e1;cases e1;obtain⟨t,rfl⟩:=e2;exact⟨hi,t,by simp[hi]⟩
theorem q31(hc:X.calm=true):e60 X (.builtin "max") (λxs H Q=>∃ (a:Æ) (ns:List Int),xs=[.ref a]/\SqT X.K H a (ns.map V.int)/\0 < ns.length/\∀ M,M∈ns->(∀ b∈ns,b<=M)->Q (.int M) H):=by
 intro pins s σ H xs us Q I r h;obtain⟨a,ns,rfl,hq,hne,q⟩:=h;obtain⟨u,rfl,rx⟩:=vals1 r;cases rx;obtain⟨its,rv,pl,_⟩:=I.tuple hq;have hsz:its.toArray.size=ns.length:=by rw[Õ,← rv.length,Ç]
 have hlt:a < s.heap.objs.size:=by obtain⟨_,e,_⟩:=pl;exact á e
 refine call_max_walk (Ð4 pl ?_);refine⟨_,_,_,_,_,_,_,rfl,Walks.tuple (A:=X.A.in1) (I.ok.hd hc) _ a (ä hlt) its.toArray,⟨⟨_,Ï _ rfl,rfl,rfl⟩,pl.push _⟩,λb hb=>?_,by rw[hsz];exact hne,CmpOf.ints_gt (λi=>ns.getD i 0) (λi v e=>(q21 rv (by simpa using e)).2),λv h' tk hP hk=>?_⟩
 ·show b < (s.heap.push _).objs.size;rw[É8];rcases è.mp hb with rfl | hb
  ·exact Ú1 _
  ·rcases è.mp hb with rfl | hb
   ·exact Ì5 hlt
   ·cases hb
 ·obtain⟨hi,t,rfl⟩:=q21 rv (show its[_]?=some v by simpa using hP)
  obtain⟨h1,h2⟩:=argBest_gt (λi=>ns.getD i 0) (its.toArray.size - 1);refine⟨.int _,H,I.kept λb o e=>?_,⟨_,rfl⟩,q _ ?_ λb hb=>?_⟩
  ·refine hk b o (λhm=>?_) (Ä _ e);rcases è.mp hm with e1 | hm
   ·exact absurd (e1 ▸ á e) (Â4 _)
   ·cases hm
  ·rw[Ö,Ù hi];exact À2 hi
  ·obtain⟨j,hj,rfl⟩:=Å5.mp hb;have:=h2 j (by rw[hsz];omega)
   rwa [show ns.getD j 0=ns[j] from by simp[hj]] at this
theorem i02(hc:X.calm=true):e60 X (.builtin "max") (rDn X.K (bfD .max)):=by
 intro pins s σ H xs us Q I r h;obtain⟨zA,z,ds,w,st,hx,e,q⟩:=h
 match ds,e with
 |[.int i,.int j],e =>
  cases e;obtain⟨x,y,rfl,h1,h2⟩:=hx.two;cases h1.j30;cases h2.j30;exact l01 hc pins s σ H _ us Q I r ⟨i,j,rfl,q _ _ (a30.refl H) i10⟩
 |[.tup l],e =>
  obtain⟨ns,e1,e2⟩:=Í.mp (show(m20 l).bind v12=some w from e);obtain⟨M,e3,rfl⟩:=È.mp (show Ë2 _ (ns.find? _)=some w from e2);have hm:=Ï2 e3;have hM:=Ú6 e3;simp only[Â0,decide_eq_true_eq] at hM;obtain⟨x,rfl,h1⟩:=hx.one;obtain⟨a,xs,rfl,m1,m2⟩:=h1.y20;obtain rfl:=a51 e1 m2;exact q31 hc pins s σ H _ us Q I r ⟨a,ns,rfl,(a10 zA H).sqT m1,Ý3 hm,λM' k1 k2=>by
   obtain rfl:M'=M:=Int.le_antisymm (hM _ k1) (k2 _ hm);exact q _ _ (a30.refl H) i10⟩
theorem i22:e60 X (.type "int") (rDn X.K (bfD .int)):=by
 intro pins s σ H xs us Q I r h;obtain⟨zA,z,ds,w,st,hx,e,q⟩:=h
 match ds,e with
 |[.int i],e =>
  cases e;obtain⟨x,rfl,h1⟩:=hx.one;cases h1.j30;exact L90 pins s σ H _ us Q I r (.inl ⟨i,rfl,q _ _ (a30.refl H) i10⟩)
 |[.bl b],e =>
  cases e;obtain⟨x,rfl,h1⟩:=hx.one;cases h1.bl_;exact L90 pins s σ H _ us Q I r (.inr ⟨b,rfl,q _ _ (a30.refl H) i10⟩)
def tyN:Ty->String
 |.int=>"int" | .bool=>"bool" | .tuple=>"tuple" | .list=>"list" | .str=>"str" | .seq=>""
theorem S51(t:Ty)(d:D)(h:t≠.seq):isB d.ty (tyN t)=Z71 t d:=by
 cases t <;> cases d <;> first | rfl | (exact absurd rfl h) | decide
theorem F21(d:D):(isB d.ty "tuple" || isB d.ty "list")=Z71 .seq d:=by cases d <;> rfl
theorem at_of{K:Á}{H:Hp}{l:List D}{xs:List V}{i:Int}{d:D}(h:HdA K H l xs)(e:atI l i=some d):∃ v,atI xs i=some v/\Hd K H d v:=by
 unfold atI at e ⊢;obtain⟨j,e1,e2⟩:=Í.mp e;rw[h.length,e1];exact h.get e2
theorem ixD:IxR X (rD2 X.K λa b=>(L40 a b).map S.d):=by
 intro value slice pins s σ H x y v u Q I rx ry h hs;obtain⟨zA,z,dx,dy,w,st,hx,hy,e,q⟩:=h;obtain⟨r,e1,rfl⟩:=È.mp e;cases dx with
 |tup l =>
  cases dy with
  |int i =>
   cases hy.j30;obtain⟨a,xs,rfl,h1,h2⟩:=hx.y20;obtain⟨v',e2,h3⟩:=at_of h2 e1;exact d32 value slice pins s σ H _ _ v u Q I rx ry ⟨a,xs,i,v',rfl,rfl,(a10 zA H).sqT h1,e2,q _ _ (a30.refl H) (y91 h3)⟩ hs
  |_=>cases e1
 |lst l =>
  cases dy with
  |int i =>
   cases hy.j30;obtain⟨a,xs,rfl,h1,h2⟩:=hx.a01;obtain⟨v',e2,h3⟩:=at_of h2 e1;exact S70 value slice pins s σ H _ _ v u Q I rx ry ⟨a,xs,i,v',rfl,rfl,(h1.same (a10 zA H)).sq,e2,q _ _ (a30.refl H) (y91 h3)⟩ hs
  |_=>cases e1
 |_=>cases e1
theorem K31{K:Á}{H:Hp}{l:List D}{xs:List V}(h:HdA K H l xs)(lo hi:Option Int):HdA K H (cutD l lo hi) (A51 xs lo hi):=by
 unfold cutD A51;rw[h.length];exact(h.drop _).take _
def K22(K:Á):V->Option Int->Option Int->Hp->VK->Prop:=λx lo hi H Q=>∃ zA z dx s,d50 zA z H/\Hd K (hz zA H) dx x/\slD dx lo hi=some s/\∀ v H',a30 H H'->RvS K zA H H' s v->Q v H'
theorem K32:SlR X (K22 X.K):=by
 intro pins s σ H x v vl vu lo hi sl Q I rx hs pl pu h;obtain⟨zA,z,dx,w,st,hx,e,q⟩:=h;cases dx with
 |tup l =>
  cases e;obtain⟨a,xs,rfl,h1,h2⟩:=hx.y20;exact Q01 pins s σ H _ v vl vu lo hi sl Q I rx hs pl pu ⟨a,xs,rfl,(a10 zA H).sqT h1,tupQ st (K31 h2 lo hi) q⟩
 |lst l =>
  cases e;obtain⟨a,xs,rfl,h1,h2⟩:=hx.a01;exact O01 pins s σ H _ v vl vu lo hi sl Q I rx hs pl pu ⟨a,xs,rfl,(h1.same (a10 zA H)).sq,λp hp=>q _ _ (a30.new _ hp) (p70 st (K31 h2 lo hi) hp)⟩
 |_=>cases e
end
end Q
namespace Q
open PySem L2 PySem.Spec PyProof.Rows
open PySem.W (KatLex KatTups kat_nil kat_cons kat_go kat_yes kat_no kat_one kat_lt kat_kind kas_kind kat_lt_int)
theorem A70(k:D):∀ l,(E41 k l).Perm (k::l)
 |[]=>.refl _
 |y::r=>by
  unfold E41;split
  ·exact((A70 k r).cons y).trans (.swap _ _ _)
  ·exact .refl _
theorem k50:∀ l,(A00 l).Perm l
 |[]=>.refl _|k::r=>(A70 k _).trans ((k50 r).cons k)
theorem q41(k:D):∀ l,l.Pairwise (λx y=>MySort.f80 (flt y) (flt x)=false)->(E41 k l).Pairwise (λx y=>MySort.f80 (flt y) (flt x)=false)
 |[],_=>Ñ2 _ _
 |y::r,h=>by
  obtain⟨h1,h2⟩:=Æ0.mp h;unfold E41;split
  ·rename_i hy;refine Æ0.mpr ⟨λz hz=>?_,q41 k r h2⟩;rcases è.mp ((A70 k r).mem_iff.mp hz) with rfl | hz
   ·cases q:MySort.f80 (flt z) (flt y) with
    |false=>rfl|true=>have:=MySort.o20 _ _ _ hy q;rw[MySort.h90] at this;cases this
   ·exact h1 z hz
  ·rename_i hy;refine Æ0.mpr ⟨λz hz=>?_,h⟩;rcases è.mp hz with rfl | hz
   ·simpa using hy
   ·cases q:MySort.f80 (flt z) (flt k) with
    |false=>rfl
    |true =>
     rcases MySort.Z20 _ (flt y) _ q with q | q
     ·rw[h1 z hz] at q;cases q
     ·exact absurd q hy
theorem J40:∀ l,(A00 l).Pairwise (λx y=>MySort.f80 (flt y) (flt x)=false)
 |[]=>.nil|k::r=>q41 k _ (J40 r)
mutual
theorem K41:∀ x y:D,eqT x y=true->x=y
 |.int i,y,h=>by
  cases y with
  |int j=>rw[eq_of_beq (show(i == j)=true from h)]|_=>cases h
 |.tup a,y,h=>by
  cases y with
  |tup b=>rw[U40 a b h]|_=>cases h
 |.non,y,h=>by cases y <;> cases h
 |.bl _,y,h=>by cases y <;> cases h
 |.str _,y,h=>by cases y <;> cases h
 |.lst _,y,h=>by cases y <;> cases h
 |.dct,y,h=>by cases y <;> cases h
theorem U40:∀ x y:List D,E00 x y=true->x=y
 |[],[],_=>rfl|[],_::_,h=>by cases h
 |_::_,[],h=>by cases h
 |x::r,y::q,h=>by
  have h:(eqT x y&&E00 r q)=true:=h;rw[Â] at h;rw[K41 x y h.1,U40 r q h.2]
end
theorem F31(hp:l'.Perm l)(hs:l'.Pairwise λx y=>MySort.f80 (flt y) (flt x)=false)(inj:∀ x∈l,∀ y∈l,flt x=flt y->x=y):A00 l=l' :=
 Í7 (le:=λx y=>MySort.f80 (flt y) (flt x)=false) (λa b ha hb p q=>inj a ((k50 l).mem_iff.mp ha) b (hp.mem_iff.mp hb) (MySort.k30 _ _ q p)) (J40 l) hs ((k50 l).trans hp.symm)
variable [TB:Tb]
theorem S61(ok:∀ x∈l,∀ y∈l,flt x=flt y->x=y)(h:MySort.sortedBy (l.map flt) p):(p.map λi=>l.getD i .non)=A00 l:=by
 have h1:=h.1.map λi=>l.getD i .non;rw[Ç,MySort.range_getD] at h1;have e:((p.map λi=>l.getD i .non).map flt)=p.map λi=>(l.map flt).getD i []:=by
  rw[Á7];refine Å8 λi hi=>?_;have:i < l.length:=by have:=h.1.mem_iff.mp hi;simpa using this
  simp[this]
 have h2:(p.map λi=>l.getD i .non).Pairwise λx y=>MySort.f80 (flt y) (flt x)=false:=by
  have:=h.2;rw[← e,Ø1] at this;exact this
 refine Í7 (le:=λx y=>MySort.f80 (flt y) (flt x)=false) (λa b ha hb p q=>?_) h2 (J40 l) (h1.trans (k50 l).symm);exact ok a (h1.mem_iff.mp ha) b ((k50 l).mem_iff.mp hb) (MySort.k30 _ _ q p)
mutual
theorem F41(kp:MySort.n61 h h'):∀ (d:D) {u:Ã}{as:List Æ},eqT d d=true->Reads h u (toP d) as->Reads h' u (toP d) as
 |.int i,_,_,_,r=>by cases r;exact .int _ _
 |.tup l,_,_,e,r=>by
  cases r with
  |tuple k1 k2 k3 k4=>exact .tuple (kp _ _ k1 k2) k2 k3 (m70 kp l e k4)
 |.non,_,_,e,_=>by cases e
 |.bl _,_,_,e,_=>by cases e
 |.str _,_,_,e,_=>by cases e
 |.lst _,_,_,e,_=>by cases e
 |.dct,_,_,e,_=>by cases e
theorem m70(kp:MySort.n61 h h'):∀ (l:List D) {us:List Ã}{as:List Æ},E00 l l=true->ReadsAll h us (L50 l) as->ReadsAll h' us (L50 l) as
 |[],_,_,_,r=>by cases r;exact .nil
 |x::q,_,_,e,r=>by
  have e:(eqT x x&&E00 q q)=true:=e;rw[Â] at e;cases r with
  |cons r1 r2=>exact .cons (F41 kp x e.1 r1) (m70 kp q e.2 r2)
end
theorem d60.get:∀ {us:List Ã}{l:List D}{i:Nat}{d:D},d60 h us l->l[i]?=some d->h81 h (us.getD i é) d
 |_,[],i,d,_,e=>by cases e
 |us,x::r,i,d,hd,e=>by
  obtain⟨u,q,rfl,h1,h2⟩:=hd.b90;cases i with
  |zero=>cases e;simpa using h1
  |succ i=>simpa using d60.get h2 (by simpa using e)
theorem d60.len:∀ {us:List Ã}{l:List D},d60 h us l->us.length=l.length
 |_,[],hd=>by rw[hd.e30];rfl
 |us,x::r,hd=>by
  obtain⟨u,q,rfl,h1,h2⟩:=hd.b90;simp[d60.len h2]
def K51(l:List D):Prop:=∀ x r,l=x::r->∃ i,x=.int i
theorem D72(hu:A.units + 40 < Ä6):∀ (a c:List D) {vs us:List Ã}{r:Bool} (i:Nat),d60 s.heap vs a->d60 s.heap us c->y81 a c=some r->g00 a<=39 ->
  ((b&&i == 0)=true->K51 a/\K51 c)->fin=decide (vs.length < us.length)->Q r s->KatLex P w A b fin Q (vs.zip us) i s
 |[],[],_,_,r,i,ha,hc,e,_,_,hf,q=>by
  cases ha.e30;cases hc.e30;cases e;subst hf;exact kat_nil q
 |[],y::t,_,_,r,i,ha,hc,e,_,_,hf,q=>by
  cases ha.e30;obtain⟨u,us,rfl,_,_⟩:=hc.b90;cases e;subst hf;exact kat_nil q
 |x::l,[],_,_,r,i,ha,hc,e,_,_,hf,q=>by
  cases hc.e30;obtain⟨v,vs,rfl,_,_⟩:=ha.b90;cases e;subst hf;exact kat_nil q
 |x::l,y::t,_,_,r,i,ha,hc,e,hd,hi,hf,q=>by
  obtain⟨v,vs,rfl,a1,a2⟩:=ha.b90;obtain⟨u,us,rfl,c1,c2⟩:=hc.b90;have d1:deep x<=39:=Ò (Nat.le_max_left _ _) hd;have d2:g00 l<=39:=Ò (Nat.le_max_right _ _) hd;have e:(if eqD x y=true then y81 l t else ltD x y)=some r:=e;refine kat_cons (g72 (A:=A) a1 c1 ∅ P w _ _ ?_)
  refine kat_go (λz=>?_) λz=>?_
  ·rw[if_pos z] at e;refine kat_yes (D72 hu l t (i + 1) a2 c2 e d2 (λk=>?_) (by rw[hf];simp) q)
   simp at k
  ·rw[if_neg (by rw[z];exact Ð)] at e
   refine kat_no ?_;cases hb:(b&&i == 0) with
   |true =>
    obtain⟨f1,f2⟩:=hi hb;obtain⟨m,rfl⟩:=f1 x l rfl;obtain⟨n,rfl⟩:=f2 y t rfl;cases e;obtain⟨_,_,r1⟩:=a1;obtain⟨_,_,r2⟩:=c1;cases r1;cases r2;exact oneLt_int q
   |false=>exact kat_one _ _ ((S31 39 (A:=A) (s:=s)).1 x y v u r d1 a1 c1 e ∅ P w _ _ q)
theorem U50(h:Z80 x=0):∃ i,x=.int i:=by
 cases x with
 |int i=>exact⟨i,rfl⟩
 |tup l =>
  cases l with
  |nil=>cases h
  |cons y r=>cases y <;> cases h
 |_=>cases h
theorem U60(h:Z80 x=k)(h1:1<=k)(h3:k < 3):∃ y r,x=.tup (y::r)/\(k=1->∃ i,y=.int i)/\(k=2->∃ l,y=.tup l):=by
 cases x with
 |tup l =>
  cases l with
  |nil=>have:k=3:=h.symm;omega
  |cons y r =>
   refine⟨y,r,rfl,λe=>?_,λe=>?_⟩ <;> subst e <;> cases y <;> first | exact⟨_,rfl⟩ | cases h
 |int i=>have:k=0:=h.symm;omega|_=>have:k=3:=h.symm;omega
theorem S71(h1:1<=k)(h3:k < 3):∀ {us:List Ã}{l:List D},d60 h us l->(∀ x∈l,Z80 x=k)->∃ fs,KatTups h us fs/\fs.length=us.length/\∀ v∈fs,(k=1->∃ i t,v=Ã.int i t)/\(k=2->∃ a o,v=Á3 a/\h.get? a=some o/\o.cls=.type "tuple")
 |_,[],hd,_=>by rw[hd.e30];exact⟨[],.nil,rfl,λv hv=>absurd hv (by simp)⟩
 |_,x::r,hd,hk=>by
  obtain⟨u,q,rfl,⟨_,as,r1⟩,h2⟩:=hd.b90;obtain⟨fs,t1,t2,t3⟩:=S71 h1 h3 h2 λy hy=>hk y (Ê _ hy);obtain⟨y,l,rfl,y1,y2⟩:=U60 (hk x É) h1 h3;cases r1 with
  | @tuple a o vs n xs as k1 k2 k3 k4 =>
   cases hv:vs.toList with
   |nil=>rw[hv] at k4;cases k4
   |cons f fr =>
    rw[hv] at k4;cases k4 with
    |cons f1 f2 =>
     refine⟨f::fs,.cons k1 k2 k3 (by rw[← ü,hv];rfl) t1,by simp[t2],λv hm=>?_⟩
     rcases è.mp hm with rfl | hm
     ·refine⟨λe=>?_,λe=>?_⟩
      ·obtain⟨i,rfl⟩:=y1 e;cases f1;exact⟨_,_,rfl⟩
      ·obtain⟨m,rfl⟩:=y2 e;cases f1 with
       |tuple g1 g2 g3 g4=>exact⟨_,_,rfl,g1,g2⟩
     ·exact t3 v hm
def kdOf:Nat->Ê0
 |0=>Ö4|1=>tuples' true|_=>tuples' false
theorem U70(h:l70 x y=true):Z80 y=Z80 x/\ltD x y=some (MySort.f80 (flt x) (flt y))/\(flt x=flt y->x=y):=by
 unfold l70 at h;rw[Â,Â,À6] at h;refine⟨eq_of_beq h.1,eq_of_beq h.2.1,λe=>?_⟩;rcases h.2.2 with k | k
 ·exact K41 _ _ k
 ·rw[e] at k;simp at k
theorem i32{P:ß}{w:ò}{A:ù}{s:Å}{us:List Ã}{l:List D}{k:Nat}(hd:d60 s.heap us l)(k3:k < 3)(hk:∀ x∈l,Z80 x=k)(h2:2<=us.length)(E:Ã->Å->Prop)(Q:Ê0->Å->Prop)(q:Q (kdOf k) s):Ó (Ü P w) A (keyKind' us.toArray) Q E s:=by
 match k,k3,hk,q with
 |0,_,hk,q =>
  refine kas_kind h2 (T:=.type "int") (λv hv=>?_) rfl rfl q;obtain⟨i,hi,rfl⟩:=Å5.mp hv;have hi':i < l.length:=by rw[← hd.len];exact hi
  obtain⟨_,as,r⟩:=hd.get (i:=i) (d:=l[i]) (by simp[hi'])
  obtain⟨n,hn⟩:=U50 (hk l[i] (À2 hi'));rw[hn] at r;have e:us.getD i é=us[i]:=by simp[hi]
  rw[e] at r;generalize us[i]=v at r;cases r;exact Ù3 rfl
 |1,_,hk,q =>
  obtain⟨fs,t1,t2,t3⟩:=S71 (-0) (-0) hd hk
  exact kat_kind (T:=.type "int") t1 ∅ (λv hv=>by obtain⟨i,t,rfl⟩:=(t3 v hv).1 rfl;exact Ù3 rfl) rfl q
 |2,_,hk,q =>
  obtain⟨fs,t1,t2,t3⟩:=S71 (-0) (-0) hd hk
  exact kat_kind (T:=.type "tuple") t1 ∅ (λv hv=>by
   obtain⟨a,o,rfl,g1,g2⟩:=(t3 v hv).2 rfl;rw[← g2];exact(Í0 g1).andThen .now) rfl q
theorem v72{P:ß}{w:ò}{A:ù}{s:Å}{us:List Ã}{l:List D}{k:Nat}(hd:d60 s.heap us l)(hu:A.units + 40 < Ä6)(k3:k < 3)(hk:∀ x∈l,Z80 x=k)(ho:∀ x∈l,okD x=true)(hp:∀ x∈l,∀ y∈l,l70 x y=true)(i j:Nat)(hi:i < us.length)(hj:j < us.length)(E:Ã->Å->Prop)(C:Bool->Å->Prop)(hC:C (MySort.f80 ((l.map flt).getD i []) ((l.map flt).getD j [])) s):Ó (Ü P w) A (keyLt' (kdOf k) (us.getD i é) (us.getD j é)) C E s:=by
 have hi':i < l.length:=by rw[← hd.len];exact hi
 have hj':j < l.length:=by rw[← hd.len];exact hj
 have mi:=À2 hi';have mj:=À2 hj';obtain⟨_,h2,_⟩:=U70 (hp _ mi _ mj);have a1:=hd.get (i:=i) (d:=l[i]) (by simp[hi'])
 have b1:=hd.get (i:=j) (d:=l[j]) (by simp[hj'])
 have e1:(l.map flt).getD i []=flt l[i]:=by simp[hi']
 have e2:(l.map flt).getD j []=flt l[j]:=by simp[hj']
 rw[e1,e2] at hC;generalize MySort.f80 (flt l[i]) (flt l[j])=c at h2 hC;have kx:=hk _ mi;have ky:=hk _ mj;have ox:=J20 (ho _ mi);generalize l[i]=x at *
 generalize l[j]=y at *
 have tup:∀ b:Bool,1<=k->(b=true->k=1)->Ó (Ü P w) A (keyLt' (tuples' b) (us.getD i é) (us.getD j é)) C E s:=λb h1 hb=>by
  obtain⟨x1,xr,rfl,x2,_⟩:=U60 kx h1 k3;obtain⟨y1,yr,rfl,y2,_⟩:=U60 ky h1 k3;obtain⟨f1,as,r1⟩:=a1;obtain⟨f2,bs,r2⟩:=b1;generalize us.getD i é=v at r1;generalize us.getD j é=u at r2;cases r1 with
  |tuple p1 p2 p3 p4 =>
   cases r2 with
   |tuple q1 q2 q3 q4 =>
    refine kat_lt p1 p3 q1 q3 (D72 hu (x1::xr) (y1::yr) 0 ⟨f1,_,p4⟩ ⟨f2,_,q4⟩ h2 (by have:deep (.tup (x1::xr))=g00 (x1::xr) + 1:=rfl;omega) (λz=>?_) (by simp) hC)
    have hb1:=hb (by simpa using z)
    exact⟨λa q e=>by cases e;exact x2 hb1,λa q e=>by cases e;exact y2 hb1⟩
 match k,k3,kx,ky,tup with
 |0,_,kx,ky,_ =>
  obtain⟨m,rfl⟩:=U50 kx;obtain⟨n,rfl⟩:=U50 ky;cases h2;obtain⟨_,_,r1⟩:=a1;obtain⟨_,_,r2⟩:=b1;generalize us.getD i é=v at r1;generalize us.getD j é=u at r2;cases r1;cases r2;exact kat_lt_int hC
 |1,_,_,_,tup=>exact tup true (-0) λ_=>rfl|2,_,_,_,tup=>exact tup false (-0) λh=>by cases h
theorem i42(h64:us.length < 64)(hd:d60 s.heap us l)(hu:A.units + 40 < Ä6)(k3:k < 3)(hk:∀ x∈l,Z80 x=k)(ho:∀ x∈l,okD x=true)(hp:∀ x∈l,∀ y∈l,l70 x y=true):MySort.Z51 P w A s us (MySort.sortedBy (l.map flt)) (kdOf k) where
 len:=by omega
 few h2:=MySort.e02 (by rw[Ç];exact hd.len) h2
 all p hp:=by rw[hp.1.length_eq,ø,Ç,hd.len]
 kind:=i32 hd k3 hk
 run:=MySort.P11 (by rw[Ç];exact hd.len) h64 (v72 hd hu k3 hk ho hp)
theorem HdA.pick{K:Á}{H:Hp}{l:List D}{vs:List V}(h:HdA K H l vs):∀ {p:List Nat},(∀ i∈p,i < l.length)->HdA K H (p.map λi=>l.getD i .non) (p.map λi=>vs.getD i .non)
 |[],_=>.nil
 |i::p,hp=>by
  have hi:=hp i É;refine .cons ?_ (HdA.pick h λj hj=>hp j (Ê _ hj));obtain⟨v,e1,e2⟩:=h.get (i:=i) (d:=l[i]) (by simp[hi])
  have g1:l.getD i .non=l[i]:=by simp[hi]
  have g2:vs.getD i .non=v:=by rw[Ö,e1];rfl
  show Hd K H (l.getD i .non) (vs.getD i .non);rw[g1,g2];exact e2
end Q
namespace Q
open PySem L2 PySem.Spec PyProof.Rows
open PySem.W (kas_mapM kas_first_eq kas_item kas_item_eq kas_cmp)
theorem S81(h:k<=8):∀ i∈TS.sN k,i < 2 ^ k:=by
 have:∀ k,k < 9->((TS.sN k).all λi=>Ô7 i (2 ^ k))=true:=by decide +kernel
 intro i hi;exact Nat.blt_eq.mp (â.mp (this k ∅) i hi)
theorem i52(h:k<=8):(TS.sN k).length=2 ^ k:=by
 have:∀ k,k < 9->beq (TS.sN k).length (2 ^ k)=true:=by decide +kernel
 exact Ë5 (this k ∅)
theorem s10(h:i < 2 ^ k):(g20 k)[i]?=some (b80 k i):=by
 unfold g20;rw[à,Ô8 h];rfl
theorem i62(h:k<=8):((TS.sN k).map λi=>(g20 k).getD i .non)=p11 k :=
 Å8 λi hi=>by rw[Ö,s10 (S81 h i hi)];rfl
theorem U80:∀ a b:List Nat,y81 (a.map λ(i:Nat)=>.int i) (b.map λ(i:Nat)=>.int i)=some (TS.n91 a b)
 |[],[]=>rfl|[],_::_=>rfl|_::_,[]=>rfl
 |a::r,b::q=>by
  show(if ((a:Int) == (b:Int))=true then y81 (r.map λ(i:Nat)=>.int i) (q.map λ(i:Nat)=>.int i) else some (decide ((a:Int) < b)))=some (if beq a b=true then TS.n91 r q else Ô7 a b);rw[U80 r q];by_cases h:a=b
  ·subst h;rw[if_pos (by simp),if_pos (Nat.beq_refl a)]
  ·rw[if_neg (by simp;omega),if_neg λe=>h (Ë5 e)]
   congr 1
   rw[þ,decide_eq_true_eq,Nat.blt_eq];omega
variable [TB:Tb]
section
variable {P:ß}{w:ò}{A:ù}{E:Ã->Å->Prop}{s:Å}
def TupAt(h:ë)(v:Ã):Prop:=∃ a o xs n,v=.ref a/\h.get? a=some o/\o.cls=.type "tuple"/\o.data=.seq xs n
theorem a61(ho:s.heap.get? a=some o)(hc:o.cls=.type "tuple")(hd:o.data=.seq xs n)(q:Q xs[0]? s):Ó (Ü P w) A (firstOfTuple' (.ref a)) Q E s:=by
 rw[kas_first_eq];refine À (Û1 (show PySem.W.Looks (Ü P w) s.heap (typeOf (.ref a)) o.cls from(Í0 ho).andThen .now) ?_);rw[hc,if_neg (by first | decide | simp)]
 exact À (Ï7 ho hd (Ë q))
theorem O50:∀ (vs:List Ã),(∀ v∈vs,TupAt s.heap v)->∃ fs:List (Option Ã),∀ Q,Q fs s->Ó (Ü P w) A (vs.mapM firstOfTuple') Q E s
 |[],_=>⟨[],λQ q=>by rw[List.mapM_nil];exact Ë q⟩
 |v::vs,h=>by
  obtain⟨fs,hf⟩:=O50 vs λu hu=>h u (Ê _ hu);obtain⟨a,o,xs,n,rfl,ho,hc,hd⟩:=h v É;refine⟨xs[0]?::fs,λQ q=>?_⟩;rw[Õ1];exact À (a61 ho hc hd (À (hf _ (Ë q))))
theorem S91(ho:s.heap.get? a=some o)(hc:o.cls=.type "tuple")(hd:o.data=.seq #[] n)(h:∀ v∈vs,TupAt s.heap v)(q:Q Ö4 s):Ó (Ü P w) A (keyKind' (Á3 a::vs).toArray) Q E s:=by
 obtain⟨fs,hf⟩:=O50 (P:=P) (w:=w) (A:=A) (E:=E) vs h;rw[keyKind'_eq,List.mapM_toArray,map_eq_pure_bind,Õ1];refine À (À (À (a61 ho hc hd (À (hf _ (Ë (Ë ?_)))))));rw[if_neg (by simp),if_neg (by simp)]
 rw[oneTypeOnly'_eq,List.mapM_toArray,map_eq_pure_bind];refine À (À (À (kas_mapM (r:=.type "tuple") _ (λv hv Q' hq=>?_) (Ë ?_))))
 ·have:TupAt s.heap v:=by
   rcases è.mp hv with rfl | hv
   ·exact⟨_,_,_,_,rfl,ho,hc,hd⟩
   ·exact h v hv
  obtain⟨b,o',xs,m,rfl,ho',hc',_⟩:=this;rw[← hc'] at hq;exact Û1 (show PySem.W.Looks (Ü P w) s.heap (typeOf (.ref b)) o'.cls from(Í0 ho').andThen .now) hq
 ·have hall:((List.map (λ_=>Ã5 "tuple") (Á3 a::vs)).toArray.all λx=>x == Ã5 "tuple")=true:=by
   simp only[List.all_toArray,all_map,Â0];intro _ _;rfl
  have h0:(List.map (λ_=>Ã5 "tuple") (Á3 a::vs)).toArray[0]?=some (Ã5 "tuple"):=by simp
  rw[h0];simp only[hall,if_true];exact Ë (Ë q)
theorem i72(hl:Ï4 s.heap l i1)(hb:Ï4 s.heap b i2)(hu:A.units < Ä6)(hx:Lx A.in1 s i1.toList i2.toList c)(q:Q c s):Ó (Ü P w) A (keyLt' Ö4 (.ref l) (.ref b)) Q E s:=by
 obtain⟨⟨cls,dd,data,sl⟩,ho,hc,n,hd⟩:=id hl;obtain⟨⟨cls2,dd2,data2,sl2⟩,ho2,hc2,n2,hd2⟩:=id hb;simp only at hc hd hc2 hd2;subst hc hd hc2 hd2;rw[keyLt'_oneType,oneLt'_eq];simp only[if_true];refine À (wpAny_cRoomFor hu (À (wpAny_callSpecialIfBound?_slot ⟨_,ho,rfl⟩ Ñ5 (Ç4 Ñ5 ⟨_,ho,rfl⟩ Ü5 (Û8 _ _) (A50 l b i1 i2 n n2 dd dd2 sl sl2 c) ⟨ho,ho2,hx,?_⟩))));exact À3 q
theorem i82(h8:k<=8)(hd:d60 s.heap us (g20 k))(hu:A.units + 40 < Ä6):MySort.Z51 P w A s us (λp=>p=TS.sN k) Ö4 where
 len:=by rw[hd.len,g20,Ç,ø];exact Ò (È2 (-0) h8) (-0)
 few h2:=by
  rw[hd.len,g20,Ç,ø] at h2 ⊢;cases k with
  |zero=>rfl|succ k=>have:=Nat.one_le_two_pow (n:=k);rw[pow_succ] at h2;omega
 all p hp:=by subst hp;rw[hd.len,g20,Ç,ø,i52 h8]
 kind h2 E Q q:=by
  have ht:∀ i v,us[i]?=some v->∃ xs n a o,v=.ref a/\s.heap.get? a=some o/\o.cls=.type "tuple"/\o.data=.seq xs n/\(i=0->xs=#[]):=λi v e=>by
   have hi:i < us.length:=(Û.mp e).1;have hi':i < 2 ^ k:=by rw[hd.len,g20,Ç,ø] at hi;exact hi
   obtain⟨_,as,r⟩:=hd.get (s10 hi');have e2:us.getD i é=v:=by rw[Ö,e];rfl
   rw[e2] at r;have z0:∀ k,TS.i60 k 0 0=[]:=λk=>by
    have:∀ k i,TS.i60 k i 0=[]:=λk=>by
     induction k with
     |zero=>exact λ_=>rfl|succ k ih=>exact λi=>ih (i + 1)
    exact this k 0
   cases i with
   |zero =>
    have r:Reads s.heap v (toP (.tup ((TS.i60 k 0 0).map λ(i:Nat)=>.int i))) as:=r;rw[z0] at r;cases r with
    | @tuple a o vs n xs as k1 k2 k3 k4 =>
     have:vs.toList=[]:=by cases hv:vs.toList with | nil=>rfl | cons _ _=>rw[hv] at k4;cases k4
     exact⟨vs,n,a,o,rfl,k1,k2,k3,λ_=>Array.toList_eq_nil_iff.mp this⟩
   |succ i =>
    cases r with
    | @tuple a o vs n xs as k1 k2 k3 k4=>exact⟨vs,n,a,o,rfl,k1,k2,k3,λe=>by cases e⟩
  match us,ht with
  |[],_=>simp at h2
  |v::vs,ht =>
   obtain⟨xs,n,a,o,rfl,h1,h3,h4,h5⟩:=ht 0 v rfl;cases h5 rfl;refine S91 h1 h3 h4 (λu hu=>?_) q;obtain⟨i,hi,rfl⟩:=Å5.mp hu;obtain⟨xs,n,a,o,e,h1,h3,h4,_⟩:=ht (i + 1) vs[i] (by simp[hi])
   exact⟨a,o,xs,n,e,h1,h3,h4⟩
 run h2:=by
  have hl:us.length=2 ^ k:=by rw[hd.len,g20,Ç,ø]
  have h1:1<=k:=by
   cases k with
   |zero=>rw[hl] at h2;exact absurd h2 (-0)|succ k=>omega
  refine TS.runL h1 h8 hl λi j C hi hj hC=>?_;have e1:=kas_item_eq us i;have e2:=kas_item_eq us j;show Ó (Ü P w) A (keyLt' Ö4 (ô (pairsOf us) i).1 (ô (pairsOf us) j).1) C _ s;rw[e1,e2];obtain⟨f1,as,r1⟩:=hd.get (s10 hi);obtain⟨f2,bs,r2⟩:=hd.get (s10 hj);show Ó (Ü P w) A (keyLt' Ö4 (us.getD i é) (us.getD j é)) C _ s;generalize us.getD i é=v at r1;generalize us.getD j é=u at r2;cases r1 with
  |tuple p1 p2 p3 p4 =>
   cases r2 with
   |tuple q1 q2 q3 q4 =>
    refine i72 ⟨_,p1,p2,_,p3⟩ ⟨_,q1,q2,_,q3⟩ ∅ ((S31 40).2 _ _ _ _ _ ?_ ⟨f1,_,p4⟩ ⟨f2,_,q4⟩ (U80 _ _) ∅) hC
    have:∀ l:List Nat,g00 (l.map λ(i:Nat)=>.int i)=0:=λl=>by
     induction l with
     |nil=>rfl|cons x r ih=>show Nat.max 0 _=0;rw[ih];rfl
    rw[this];decide
end
section
variable {X:Cx}
theorem T01{zA:Option Æ}{H:Hp}{k:Nat}{xs:List V}(hu:X.A.units + 64 < Ä6)(hd:HdA X.K H (g20 k) xs)(h8:k<=8):C81 X H xs (λp=>p=TS.sN k):=by
 intro pins σ s us I rv;have ci:∀ l:List Nat,e20 (l.map λ(i:Nat)=>.int i)=true/\E00 (l.map λ(i:Nat)=>.int i) (l.map λ(i:Nat)=>.int i)=true:=λl=>by
  induction l with
  |nil=>exact⟨rfl,rfl⟩|cons x r ih=>exact⟨ih.1,by show((x:Int) == (x:Int)&&_)=true;rw[ih.2];simp⟩
 have cl:∀ l:List Nat,e20 (l.map (b80 k))=true/\E00 (l.map (b80 k)) (l.map (b80 k))=true:=λl=>by
  induction l with
  |nil=>exact⟨rfl,rfl⟩
  |cons x r ih =>
   refine⟨?_,?_⟩
   ·show(e20 _&&_)=true;rw[(ci _).1,ih.1];rfl
   ·show(E00 _ _&&_)=true;rw[(ci _).2,ih.2];rfl
 obtain⟨as,ra⟩:=A30 I hd rv (cl _).1;exact⟨Ö4,λh' kp=>i82 h8 ⟨(cl _).1,_,m70 kp _ (cl _).2 ra⟩ (by show X.A.units + 1 + 1 + 40 < Ä6;omega)⟩
theorem T11{zA:Option Æ}{H:Hp}{l:List D}{xs:List V}{Pr:List Nat->Prop}(hd:HdA X.K H l xs)(ok:l80 l=true)(mk:∀ (s:Å) (us:List Ã) (k:Nat),us.length=l.length->d60 s.heap us l->k < 3->(∀ x∈l,Z80 x=k)->(∀ x∈l,okD x=true)->(∀ x∈l,∀ y∈l,l70 x y=true)->MySort.Z51 X.prog X.w X.A.in1.in1 s us Pr (kdOf k)):C81 X H xs Pr:=by
 intro pins σ s us I rv;have hlen:us.length=l.length:=by rw[← rv.length,hd.length]
 have all:∀ x∈l,Z80 x < 3/\okD x=true/\∀ y∈l,l70 x y=true:=λx hx=>by
  have:=â.mp ok x hx;rw[Â,Â,decide_eq_true_eq,Â0] at this;exact⟨this.1,this.2.1,this.2.2⟩
 have hf:e20 l=true:=by
  clear hd mk hlen
  induction l with
  |nil=>rfl
  |cons x r ih =>
   have h1:=(m60 (all x É).2.1).1;show(u30 x&&e20 r)=true;rw[h1];have ok':l80 r=true:=â.mpr λy hy=>by
    obtain⟨a,b,c⟩:=all y (Ê _ hy);rw[Â,Â,decide_eq_true_eq,Â0];exact⟨a,b,λz hz=>c z (Ê _ hz)⟩
   exact ih ok' λy hy=>⟨(all y (Ê _ hy)).1,(all y (Ê _ hy)).2.1,λz hz=>(all y (Ê _ hy)).2.2 z (Ê _ hz)⟩
 obtain⟨as,ra⟩:=A30 I hd rv hf;have pure:E00 l l=true:=by
  clear hd ra hf ok;have:∀ q:List D,(∀ x∈q,eqT x x=true)->E00 q q=true:=λq=>by
   induction q with
   |nil=>intro _;rfl|cons x r ih=>intro h;show(eqT x x&&E00 r r)=true;rw[h x É,ih λy hy=>h y (Ê _ hy)];rfl
  refine this l λx hx=>?_;have h:=(all x hx).2.2 x hx;unfold l70 at h;rw[Â,Â,À6] at h;rcases h.2.2 with k | k
  ·exact k
  ·simp at k
 cases l with
 |nil=>exact⟨kdOf 0,λh' kp=>mk _ _ _ hlen ⟨hf,_,m70 kp _ pure ra⟩ (-0) (λx hx=>absurd hx (by simp)) (λx hx=>absurd hx (by simp)) λx hx=>absurd hx (by simp)⟩
 |cons x r =>
  have hx:=all x É;exact⟨kdOf (Z80 x),λh' kp=>mk _ _ _ hlen ⟨hf,_,m70 kp _ pure ra⟩ hx.1 (λy hy=>(U70 (hx.2.2 y hy)).1) (λy hy=>(all y hy).2.1) λy hy=>(all y hy).2.2⟩
theorem T21{zA:Option Æ}{H:Hp}{l:List D}{xs:List V}(hu:X.A.units + 64 < Ä6)(hd:HdA X.K H l xs)(h64:l.length < 64)(ok:l80 l=true):C81 X H xs (MySort.sortedBy (l.map flt)) :=
 T11 (zA:=zA) hd ok λ_ _ _ hl d k3 hk ho hp=>i42 ∅ d (by show X.A.units + 1 + 1 + 40 < Ä6;omega) k3 hk ho hp
theorem q51(hu:X.A.units + 64 < Ä6):e60 X (.builtin "sorted") (rDn X.K (bfD .sorted)):=by
 intro pins s σ H xs us Q I r h;obtain⟨zA,z,ds,w,st,hx,e,q⟩:=h
 match ds,e with
 |[x],e =>
  have e:sortedS x=some w:=e;unfold sortedS at e;obtain⟨l,h1,e⟩:=Í.mp e;obtain⟨v,rfl,hv⟩:=hx.one;have go:∀ (a:Æ) (ys:List V),v=.ref a->(SqL X.K H a ys∨SqT X.K H a ys)->HdA X.K (hz zA H) l ys->Ó (Ü X.prog X.w) X.A (call (.builtin "sorted") us) (EP X pins σ Q) X.xe s:=λa ys hva hq hd=>by
   subst hva;by_cases c:l.length < 64/\l80 l=true
   ·rw[if_pos c] at e;cases e;obtain⟨h64,ok⟩:=c;refine w30 pins s σ H _ us Q I r ⟨a,ys,MySort.sortedBy (l.map flt),rfl,hq,T21 (zA:=zA) hu (hd.same (a10 zA H)) h64 ok,λp hp i hi=>by have:=hp.1.mem_iff.mp hi;rw[hd.length];simpa using this,λp lA hp hn=>?_⟩
    have hd2:=hd.pick (p:=p) λi hi=>by have:=hp.1.mem_iff.mp hi;simpa using this
    rw[S61 (λx hx y hy=>?_) hp] at hd2
    ·exact q _ _ (a30.new _ hn) (p70 st hd2 hn)
    ·have:=â.mp ok x hx;rw[Â,Â,Â0] at this;exact(U70 (this.2.2 y hy)).2.2
   ·rw[if_neg c] at e;obtain⟨l',e1,rfl⟩:=È.mp e;obtain⟨k,e2,rfl⟩:=È.mp e1;have e3:=U40 _ _ (Ú6 (p:=λk=>E00 l (g20 k)) e2);have k8:k<=8:=by have:=Ï2 e2;simp at this;omega
    subst e3;refine w30 pins s σ H _ us Q I r ⟨a,ys,λp=>p=TS.sN k,rfl,hq,T01 (zA:=zA) hu (hd.same (a10 zA H)) k8,λp hp i hi=>?_,λp lA hp hn=>?_⟩
    ·subst hp;rw[hd.length,g20,Ç,ø];exact S81 k8 i hi
    ·subst hp;have hd2:=hd.pick (p:=TS.sN k) λi hi=>by rw[g20,Ç,ø];exact S81 k8 i hi
     rw[i62 k8] at hd2;exact q _ _ (a30.new _ hn) (p70 st hd2 hn)
  cases x with
  |tup m =>
   cases h1;obtain⟨a,ys,rfl,k1,k2⟩:=hv.y20;exact go a ys rfl (.inr ((a10 zA H).sqT k1)) k2
  |lst m =>
   cases h1;obtain⟨a,ys,rfl,k1,k2⟩:=hv.a01;exact go a ys rfl (.inl (k1.same (a10 zA H)).sq) k2
  |_=>cases h1
end
structure Gs where
 fns:List (Str × List Str)
 nums:List (Str × Int)
 F:FT
 cls:Nat->Addr
 lv:Nat
def EPost(G:Gs)(zA:Option Æ)(E:XK)(c:Nat)(z:Z)(H:Hp):Prop:=∀ e H',Ext zA H H'->d50 zA z H'->H' e=none->E (.ref (G.cls c)) (some e) H'
theorem EPost.mono(h:EPost G zA E c z H)(e:Ext zA H H1):EPost G zA E c z H1:=λa H' x s n=>h a H' (e.trans x) s n
def v82(K:Á)(G:Gs)(zA:Option Æ)(E:XK)(H:Hp)(Q:VK):R S->Prop
 |.ok s z'=>∀ v H',Ext zA H H'->d50 zA z' H'->RvS K zA H H' s v->Q v H'|.er c z'=>EPost G zA E c z' H
def U90(K:Á)(G:Gs)(zA:Option Æ)(E:XK)(H:Hp)(Q:VK):R (List S)->Prop
 |.ok l z'=>∃ s,l=[s]/\∀ v H',Ext zA H H'->d50 zA z' H'->RvS K zA H H' s v->Q v H'|.er c z'=>EPost G zA E c z' H
def v92(K:Á)(G:Gs)(zA:Option Æ)(E:XK)(H:Hp)(Q:List V->Hp->Prop):R (List S)->Prop
 |.ok l z'=>∀ vs H',Ext zA H H'->d50 zA z' H'->Ä3 (RvS K zA H H') l vs->Q vs H'|.er c z'=>EPost G zA E c z' H
def F51(G:Gs)(zA:Option Æ)(E:XK)(H:Hp)(Q:Bool->Hp->Prop):R (List S)->Prop
 |.ok l z'=>∃ b,l=[.d (.bl b)]/\∀ H',Ext zA H H'->d50 zA z' H'->Q b H'|.er c z'=>EPost G zA E c z' H
def w50(K:Á)(zA:Option Æ)(H:Hp)(ρ:Env)(σ:L2.St):Prop:=∀ (i:Nat) (s:S),ρ[i]?=some (some s)->∃ v,σ[i]?=some (some v)/\RvP K zA H s v
theorem w50.mono{K:Á}{zA:Option Æ}{H H':Hp}{ρ:Env}{σ:L2.St}(h:w50 K zA H ρ σ)(e:Ext zA H H'):w50 K zA H' ρ σ:=λi s q=>let ⟨v,a,b⟩:=h i s q;⟨v,a,b.mono e⟩
def tI(K:Á)(G:Gs)(E:XK)(x:Ex):TE:=λσ H Q=>∃ zA ρ z r,w50 K zA H ρ σ/\d50 zA z H/\ev G.F x ρ z=some r/\U90 K G zA E H Q r
def tA(K:Á)(G:Gs)(E:XK)(x:Ex):TA:=λσ H Q=>∃ zA ρ z r,w50 K zA H ρ σ/\d50 zA z H/\ev G.F x ρ z=some r/\v92 K G zA E H Q r
def tT(K:Á)(G:Gs)(E:XK)(x:Ex):TT:=λσ H Q=>∃ zA ρ z r,w50 K zA H ρ σ/\d50 zA z H/\ev G.F x ρ z=some r/\F51 G zA E H Q r
def spF(K:Á)(G:Gs)(f n:Nat):Sp:=λvs H Q E=>vs.length=n/\∃ zA z ss r,RvA K zA H ss vs/\d50 zA z H/\G.F false f ss z=some r/\v82 K G zA E H Q r
section
variable {K:Á}{G:Gs}{E:XK}{a x:Ex}{ρ:Env}{z:Z}{zA:Option Æ}{σ:L2.St}{H:Hp}
theorem j50{α:Type}{k:List S->M α}{r:R α}{Q':VK}(rel:w50 K zA H ρ σ)(st:d50 zA z H)(h:M.bind (ev G.F a ρ) k z=some r)(her:∀ c z1,r=.er c z1->EPost G zA E c z1 H)
  (hok:∀ l z1,k l z1=some r->∃ s,l=[s]/\∀ v H1,Ext zA H H1->d50 zA z1 H1->RvS K zA H H1 s v->Q' v H1):tI K G E a σ H Q':=by
 rcases M.bind_some h with ⟨l,z1,e1,e2⟩ | ⟨c,z1,e1,e2⟩
 ·exact⟨zA,ρ,z,_,rel,st,e1,hok l z1 e2⟩
 ·exact⟨zA,ρ,z,_,rel,st,e1,her c z1 e2⟩
theorem h91{α:Type}{k:List S->M α}{r:R α}{Q':List V->Hp->Prop}(rel:w50 K zA H ρ σ)(st:d50 zA z H)(h:M.bind (ev G.F a ρ) k z=some r)(her:∀ c z1,r=.er c z1->EPost G zA E c z1 H)
  (hok:∀ l z1,k l z1=some r->∀ vs H1,Ext zA H H1->d50 zA z1 H1->Ä3 (RvS K zA H H1) l vs->Q' vs H1):tA K G E a σ H Q':=by
 rcases M.bind_some h with ⟨l,z1,e1,e2⟩ | ⟨c,z1,e1,e2⟩
 ·exact⟨zA,ρ,z,_,rel,st,e1,hok l z1 e2⟩
 ·exact⟨zA,ρ,z,_,rel,st,e1,her c z1 e2⟩
theorem O60{α:Type}{k:Bool->M α}{r:R α}{Q':Bool->Hp->Prop}(rel:w50 K zA H ρ σ)(st:d50 zA z H)(h:M.bind (ev G.F a ρ) (λx=>M.bind (M.of ((pl x).bind asB)) k) z=some r)(her:∀ c z1,r=.er c z1->EPost G zA E c z1 H)
  (hok:∀ b z1,k b z1=some r->∀ H1,Ext zA H H1->d50 zA z1 H1->Q' b H1):tT K G E a σ H Q':=by
 rcases M.bind_some h with ⟨l,z1,e1,e2⟩ | ⟨c,z1,e1,e2⟩
 ·obtain⟨b,e3,e4⟩:=M.a20 e2;obtain⟨d,e5,e6⟩:=Í.mp e3;have el:l=[.d (.bl b)]:=by
   obtain⟨s,rfl,hs⟩:=e90 e5;cases s with
   |d y=>cases hs;cases d <;> first | (cases e6;rfl) | cases e6
   |fr ys=>cases hs;cases e6
   |_=>cases hs
  exact⟨zA,ρ,z,_,rel,st,e1,b,el,hok b z1 e4⟩
 ·exact⟨zA,ρ,z,_,rel,st,e1,her c z1 e2⟩
theorem A80{l:List S}{s:S}(h:one l=some s):l=[s]:=by
 unfold one at h;split at h
 ·cases h;rfl
 ·cases h
end
theorem PE.imp(h:PE X e t)(i:∀ σ H Q,t' σ H Q->t σ H Q):PE X e t':=λpins s σ H Q I q=>h pins s σ H Q I (i _ _ _ q)
theorem PT.imp(h:PT X e t)(i:∀ σ H Q,t' σ H Q->t σ H Q):PT X e t':=λpins s σ H Q I q=>h pins s σ H Q I (i _ _ _ q)
theorem PW.imp(h:PW X e t)(i:∀ σ H Q,t' σ H Q->t σ H Q):PW X e t':=λw pins s σ H Q I q=>h w pins s σ H Q I (i _ _ _ q)
theorem PA.imp(h:PA X e t)(i:∀ σ H Q,t' σ H Q->t σ H Q):PA X e t':=λp pins s σ H Q I q=>h p pins s σ H Q I (i _ _ _ q)
def noStar:Ñ->Bool
 |.Starred ..=>false|_=>true
theorem c90(h:noStar e=true)(es:List Ñ)(env:Æ8):û (e::es) env=(false,eval e env)::û es env:=by
 cases e <;> first | rfl | cases h
theorem s20:∀ {es:List Ñ} (env:Æ8) (pos:Pos),es.all noStar=true->(Ó9 pos (û es env)).any (·.1)=false
 |[],_,_,_=>rfl
 |e::es,env,pos,h=>by
  rw[Å2,Â] at h;rw[c90 h.1];show(false || (Ó9 pos (û es env)).any (·.1))=false;rw[s20 env pos h.2];rfl
def plainT:Ñ->Bool
 |.UnaryOp .Not _ _=>false|.BoolOp ..=>false|.IfExp ..=>false|.Compare ..=>false|_=>true
theorem q61(h:plainT e=true)(env:Æ8)(whole:Sem Ã):isTrue e env whole=(do let v ← whole;standAt e.pos;holding [v] (truthy v)):=by
 cases e with
 |UnaryOp op _ _=>cases op <;> first | rfl | cases h
 |BoolOp _ _ _=>cases h
 |IfExp _ _ _ _=>cases h
 |Compare _ _ _ _=>cases h
 |_=>rfl
def V00:Ñ->Bool
 |.Slice ..=>false|_=>true
theorem E10(h:V00 e=true):l71 e:=λo i=>by
 cases e with
 |Slice _ _ _ _=>cases h
 |_=>rfl
def s30:Ñ->Bool
 |.Set ..=>false|_=>true
theorem q71(h:s30 e=true)(op:CmpOp):behindInMarks op e=false:=by
 cases e with
 |Set _ _ _=>cases h
 |_=>rfl
structure a90(X:Cx)(G:Gs)(E:XK)(x:Ex)(e:Expr):Prop where
 pe:PE X e (tI X.K G E x)
 pt:(∀ t a b p,e≠.IfExp t a b p)->PT X e (tT X.K G E x)
 pw:∀ op vs p,e=.BoolOp op vs p->PW X e (tT X.K G E x)
theorem b10(h:PE X e (tI X.K G E x))(hp:plainT e=true):a90 X G E x e:=by
 refine⟨h,λ_=>PT.imp (k01 h (q61 hp X.env)) λσ H Q q=>?_,λop vs p he=>?_⟩
 ·obtain⟨zA,ρ,z,r,rel,st,e,po⟩:=q;refine⟨zA,ρ,z,r,rel,st,e,?_⟩;cases r with
  |er c z1=>exact po
  |ok l z1 =>
   obtain⟨b,rfl,po⟩:=po;exact⟨_,rfl,λv H' ex st' rv=>⟨b,Hd.bl_ (show Hd X.K (hz zA H') (.bl b) v from rv),po H' ex st'⟩⟩
 ·subst he;cases hp
def isL:Ex->Bool
 |.nil=>true|.cons _ _=>true|_=>false
def Good(X:Cx)(G:Gs)(E:XK):Ex->List Ñ->Prop
 |.nil,es=>es=[]|.cons a r,es=>∃ e es',es=e::es'/\noStar e=true/\a90 X G E a e/\isL r=true/\Good X G E r es'|x,es=>∃ e,es=[e]/\a90 X G E x e
theorem Good.args:∀ {x:Ex}{es:List Ñ},isL x=true->Good X G E x es->PA X es (tA X.K G E x)/\es.all noStar=true:=by
 intro x
 induction x with
 |nil =>
  intro es _ h;have h:es=[]:=h;subst h;refine⟨PA.imp r50 λσ H Q q=>?_,rfl⟩;obtain⟨zA,ρ,z,r,rel,st,e,po⟩:=q;cases e;exact po [] H Ext.refl st .nil
 |cons a r _ ih =>
  intro es _ h;obtain⟨e,es',rfl,ns,g,lr,gr⟩:=h;obtain⟨h1,h2⟩:=ih lr gr;refine⟨PA.imp (e00 g.pe h1 (c90 ns es' X.env)) λσ H Q q=>?_,by rw[Å2,ns,h2];rfl⟩
  obtain⟨zA,ρ,z,rr,rel,st,e,po⟩:=q;have her:∀ c z1,rr=.er c z1->EPost G zA E c z1 H:=λc z1 e=>by subst e;exact po
  refine j50 rel st e her λl z1 e1=>?_;obtain⟨s,hs,e2⟩:=M.a20 e1;refine⟨s,A80 hs,λv H1 x1 st1 rv=>?_⟩;refine h91 (rel.mono x1) st1 e2 (λc z2 q=>(her c z2 q).mono x1) λl2 z2 e3 vs H2 x2 st2 rvs=>?_;cases e3;exact po (v::vs) H2 (x1.trans x2) st2 (.cons (rv.mono x2) (Ä3.Z21 rvs λ_ _ q=>q.from x1))
 |_=>intro es h;cases h
def T31:List Str:=["len","sorted","tuple","list","sum","min","max","abs","all","any","int","bool","str","isinstance","range","zip","enumerate","set"]
def lowG(G:Gs)(k:Nat):Gs:={ G with F:=A20 G.F,lv:=k }
structure w02(X:Cx)(G:Gs)(sc:Scope)(c P:Addr)(q:Str)(k:Nat)(fR:Addr)(fdR:FuncData):Prop where
 sco:X.env.scope=sc
 code:X.env.code=.ref c
 hd:PySem.W.codeHdIn X.K c P=true
 qual:X.env.qual++"<lambda>"=q
 tb:(P,q)∈TB.tb
 uq:∀ p∈TB.tb,p.1=P->p.2=q
 bm:BMain X.mg X.base
 lv:G.lv=k + 2
 cls:∀ j,j < 12->N70 X.K X.mg (G.cls j) j
 m:X.mg "_law_refused"=some (.ref fR)
 kp:PySem.W.keepIn X.K (.ref fR)=true
 bd:Binds X.K fdR ["_law_call"] []
 fn:g81 X.prog X.w X.K X.mg X.base CX0 (k + 2) fR fdR ["_law_call"] (Q81 X.prog X.w X.K X.mg X.base (k + 1))
 low:∀ f nm ps,G.fns[f]?=some (nm,ps)->∃ fa fd,X.mg nm=some (.ref fa)/\PySem.W.keepIn X.K (.ref fa)=true/\Binds X.K fd ps []/\S00 X.prog X.w X.K X.mg X.base (CX1 X.prog X.w) k fa fd ps (spF X.K (lowG G k) f ps.length)
def w12(X:Cx)(G:Gs)(sc:ú):Prop:=∃ c P q k fR fdR,w02 X G sc c P q k fR fdR
structure XI(lm:Bool)(X:Cx)(G:Gs)(E:XK)(N:List Str)(sc:Scope):Prop where
 gok:∀ f nm ps,G.fns[f]?=some (nm,ps)->∃ fa fd,X.mg nm=some (.ref fa)/\PySem.W.keepIn X.K (.ref fa)=true/\Binds X.K fd ps []/\S00 X.prog X.w X.K X.mg X.base (CX1 X.prog X.w) G.lv fa fd ps (spF X.K G f ps.length)
 num:∀ p∈G.nums,∃ t,X.mg p.1=some (.int p.2 t)
 blt:∀ n∈T31,X.mg n=none
 hN:X.N=N
 nd:N.Nodup
 vis:∀ x∈N,Vis X.env.scope x
 glb:∀ x,sc.names.lookup x=some .globalImplicit->Gl X x
 cel:∀ x,(sc.names.lookup x=some .cell∨sc.names.lookup x=some .free)->(X.env.kindOf x=some .cell∨X.env.kindOf x=some .free)
 calm:X.calm=true
 room:x40 G.lv X.A
 pas:Passes (CX1 X.prog X.w) X E
 lam:lm=true->w12 X G sc
def glob(sc:ú)(x:Str):Bool:=sc.names.lookup x == some .globalImplicit&&!(x == ("__debug__":Str))&&!(x == ("__name__":Str))
def c20(x:Str):Bool:=!(x == ("__debug__":Str))&&!(x == ("__classdict__":Str))
def i92:Const->D->Bool
 |.int i,.int j=>i == j|.bool a,.bl b=>a == b|.str x,.str y=>x == y|.none,.non=>true|_,_=>false
def bfN:Bf->Str × Bool
 |.len=>("len",false) | .sorted=>("sorted",false) | .tuple=>("tuple",true) | .list=>("list",true) | .sum=>("sum",false) | .min=>("min",false) | .max=>("max",false)|.all=>("all",false) | .any=>("any",false) | .int=>("int",true) | .sset=>("sorted",false) | .q62=>("len",false)
def served:Bf->Bool
 |.len | .tuple | .list | .min | .max | .all | .any | .int | .sorted | .sum=>true|_=>false
mutual
noncomputable def i80(N:List Str)(loc:Str->Bool):Pat->Ñ->Bool
 |.v i=>λe=>match e with
  |.Name x _=>N[i]? == some x&&loc x|_=>false
 |.tup ps=>λe=>match e with
  |.Tuple es _ _=>i01 N loc ps es|_=>false
 |.nil=>λ_=>false|.cons _ _=>λ_=>false
noncomputable def i01(N:List Str)(loc:Str->Bool):Pat->List Ñ->Bool
 |.nil=>λes=>es.isEmpty
 |.cons p r=>λes=>match es with
  |e::es=>noStar e&&i80 N loc p e&&i01 N loc r es|[]=>false
 |.v _=>λ_=>false|.tup _=>λ_=>false
end
def s40:Ñ->Bool
 |.Tuple ..=>true|_=>false
def d00:Ñ->List Str
 |.Name x _=>[x]|.Tuple es _ _=>names es|_=>[]
where names:List Ñ->List Str
 |[]=>[]|.Name x _::r=>x::names r|.Tuple [.Name a _,.Name b _] _ _::r=>a::b::names r|_::r=>names r
def O70(csc sc:ú)(N own:List Str)(capt:List (Str × Nat)):Bool :=
 csc.kind == .function&&csc.names.all (λy=>y.2 != .cell)&&csc.names.all (λy=>y.2 != .local || csc.names.lookup y.1 == some .local) &&
  csc.names.all (λy=>y.2 != .free || (sc.names.lookup y.1 == some .cell || sc.names.lookup y.1 == some .free))&&capt.all (λp=>N[p.2]? == some p.1&&csc.names.lookup p.1 == some .free) &&
  own.all (λx=>csc.names.lookup x == some .local)&&decide (own++capt.map (·.1)).Nodup
def b40(N:List Str):List Nat->List (Str × Nat)
 |[]=>[]
 |i::r=>match N[i]? with
  |some x=>(x,i)::b40 N r|none=>b40 N r
def opt{α:Type}(o:Option α)(f:α->Bool):Bool:=match o with
 |some a=>f a|none=>false
theorem a50{α:Type}{o:Option α}{f:α->Bool}(h:opt o f=true):∃ a,o=some a/\f a=true:=by
 cases o with
 |none=>cases h
 |some a=>exact⟨a,rfl,h⟩
def D82:(e:List Ñ)->Option {q:Str × Pos // e=[.Name q.1 q.2]}
 |[.Name n p]=>some ⟨(n,p),rfl⟩|_=>none
def w22:(e:List Ñ)->Option {q:Const × Nat × Pos // e=[.Constant q.1 q.2.1 q.2.2]}
 |[.Constant c k p]=>some ⟨(c,k,p),rfl⟩|_=>none
def w32:(e:List Ñ)->Option {q:Pos // e=[.Dict [] [] q]}
 |[.Dict [] [] p]=>some ⟨p,rfl⟩|_=>none
def w42:(e:List Ñ)->Option {q:List Ñ × Nat × Pos // e=[.Tuple q.1 q.2.1 q.2.2]}
 |[.Tuple l k p]=>some ⟨(l,k,p),rfl⟩|_=>none
def w52:(e:List Ñ)->Option {q:List Ñ × Pos // e=[.List q.1 q.2]}
 |[.List l p]=>some ⟨(l,p),rfl⟩|_=>none
def w62:(e:List Ñ)->Option {q:Ñ × Operator × Ñ × Pos // e=[.BinOp q.1 q.2.1 q.2.2.1 q.2.2.2]}
 |[.BinOp l o r p]=>some ⟨(l,o,r,p),rfl⟩|_=>none
def w72:(e:List Ñ)->Option {q:Ñ × CmpOp × Ñ × Pos // e=[.Compare q.1 [q.2.1] [q.2.2.1] q.2.2.2]}
 |[.Compare l [o] [r] p]=>some ⟨(l,o,r,p),rfl⟩|_=>none
def K42:(e:List Ñ)->Option {q:Str × Pos × Nat × Pos × Pos × Ñ × ú × Pos // e=[.DictComp (.Name q.1 q.2.1) (.Constant (.bool true) q.2.2.1 q.2.2.2.1) [⟨.Name q.1 q.2.2.2.2.1,q.2.2.2.2.2.1,[],0⟩] q.2.2.2.2.2.2.1 q.2.2.2.2.2.2.2]}
 |[.DictComp (.Name n p1) (.Constant (.bool true) k p2) [⟨.Name m px,iter,[],0⟩] sc ps]=>if h:m=n then some ⟨(n,p1,k,p2,px,iter,sc,ps),by rw[h]⟩ else none|_=>none
def K52(o:Bool):(e:List Ñ)->Option {q:Ñ × Str × Pos × Pos // e=[.Compare q.1 [q82 o] [.Name q.2.1 q.2.2.1] q.2.2.2]}
 |[.Compare l [c] [.Name n p] pos]=>if h:c=q82 o then some ⟨(l,n,p,pos),by rw[h]⟩ else none|_=>none
def w82:(e:List Ñ)->Option {q:Ñ × Pos // e=[.UnaryOp .USub q.1 q.2]}
 |[.UnaryOp .USub x p]=>some ⟨(x,p),rfl⟩|_=>none
def w92:(e:List Ñ)->Option {q:Ñ × Pos // e=[.UnaryOp .Not q.1 q.2]}
 |[.UnaryOp .Not x p]=>some ⟨(x,p),rfl⟩|_=>none
def x02:(e:List Ñ)->Option {q:Ñ × Ñ × List Ñ × Pos // e=[.BoolOp .And (q.1::q.2.1::q.2.2.1) q.2.2.2]}
 |[.BoolOp .And (l::r::v) p]=>some ⟨(l,r,v,p),rfl⟩|_=>none
def D92:(e:List Ñ)->Option {q:Ñ × Ñ × List Ñ × Pos // e=[.BoolOp .Or (q.1::q.2.1::q.2.2.1) q.2.2.2]}
 |[.BoolOp .Or (l::r::v) p]=>some ⟨(l,r,v,p),rfl⟩|_=>none
def x12:(e:List Ñ)->Option {q:Ñ × Ñ × Ñ × Pos // e=[.IfExp q.1 q.2.1 q.2.2.1 q.2.2.2]}
 |[.IfExp t x y p]=>some ⟨(t,x,y,p),rfl⟩|_=>none
def K62:(e:List Ñ)->Option {q:Ñ × CmpOp × CmpOp × Ñ × Ñ × Pos // e=[.Compare q.1 [q.2.1,q.2.2.1] [q.2.2.2.1,q.2.2.2.2.1] q.2.2.2.2.2]}
 |[.Compare l [o,o2] [r,s] p]=>some ⟨(l,o,o2,r,s,p),rfl⟩|_=>none
def E02:(e:List Ñ)->Option {q:Str × Pos × Ñ × List Ñ × Pos // e=[.Call (.Name q.1 q.2.1) (q.2.2.1::q.2.2.2.1) [] q.2.2.2.2]}
 |[.Call (.Name n q1) (x::l) [] p]=>some ⟨(n,q1,x,l,p),rfl⟩|_=>none
def x22:(e:List Ñ)->Option {q:Str × Pos × Ñ × Ñ × Pos // e=[.Call (.Name q.1 q.2.1) [q.2.2.1,q.2.2.2.1] [] q.2.2.2.2]}
 |[.Call (.Name n q1) [x,ty] [] p]=>some ⟨(n,q1,x,ty,p),rfl⟩|_=>none
def K72:(e:List Ñ)->Option {q:Ñ × Ñ × Pos // e=[.Subscript q.1 q.2.1 q.2.2]}
 |[.Subscript v x p]=>some ⟨(v,x,p),rfl⟩|_=>none
def K82:(e:List Ñ)->Option {q:Ñ × Option Ñ × Option Ñ × Pos × Pos // e=[.Subscript q.1 (.Slice q.2.1 q.2.2.1 none q.2.2.2.1) q.2.2.2.2]}
 |[.Subscript v (.Slice l h none q1) p]=>some ⟨(v,l,h,q1,p),rfl⟩|_=>none
def j02:(e:List Ñ)->Option {q:Ñ × Ñ × Ñ × List Ñ × ú × Pos // e=[.ListComp q.1 [⟨q.2.1,q.2.2.1,q.2.2.2.1,0⟩] q.2.2.2.2.1 q.2.2.2.2.2]}
 |[.ListComp elt [⟨tg,iter,ifs,0⟩] csc p]=>some ⟨(elt,tg,iter,ifs,csc,p),rfl⟩|_=>none
def x32:(e:Ñ)->Option {q:Str × Pos × Ñ × Pos // e=.Call (.Name q.1 q.2.1) [q.2.2.1] [] q.2.2.2}
 |.Call (.Name n q1) [a] [] p=>some ⟨(n,q1,a,p),rfl⟩|_=>none
def a12:(e:Ñ)->Option {q:Str × Pos × Ñ × Ñ × Pos // e=.Call (.Name q.1 q.2.1) [q.2.2.1,q.2.2.2.1] [] q.2.2.2.2}
 |.Call (.Name n q1) [a,b] [] p=>some ⟨(n,q1,a,b,p),rfl⟩|_=>none
def shN:(e:Ñ)->Option {q:Str × Pos // e=.Name q.1 q.2}
 |.Name n p=>some ⟨(n,p),rfl⟩|_=>none
def E12:(e:Ñ)->Option {q:Str × Pos × Str × Pos × Nat × Pos // e=.Tuple [.Name q.1 q.2.1,.Name q.2.2.1 q.2.2.2.1] q.2.2.2.2.1 q.2.2.2.2.2}
 |.Tuple [.Name a q1,.Name b q2] k p=>some ⟨(a,q1,b,q2,k,p),rfl⟩|_=>none
def K92:(e:List Ñ)->Option {q:Str × Pos × Int × Nat × Pos × Pos // e=[.Subscript (.Name q.1 q.2.1) (.Constant (.int q.2.2.1) q.2.2.2.1 q.2.2.2.2.1) q.2.2.2.2.2]}
 |[.Subscript (.Name n p) (.Constant (.int j) c q1) r]=>some ⟨(n,p,j,c,q1,r),rfl⟩|_=>none
def L02:(e:List Ñ)->Option {q:Str × Pos × Str × Pos × List Ñ × Pos × Pos // e=[.Call (.Name q.1 q.2.1) [.Call (.Name q.2.2.1 q.2.2.2.1) q.2.2.2.2.1 [] q.2.2.2.2.2.1] [] q.2.2.2.2.2.2]}
 |[.Call (.Name n p) [.Call (.Name m q1) l [] r] [] t]=>some ⟨(n,p,m,q1,l,r,t),rfl⟩|_=>none
def x42:(e:List Ñ)->Option {q:Str × Pos × Ñ × ú × Pos × Pos // e=[.Call (.Name q.1 q.2.1) [.Lambda ⟨[],[],none,[],[],none,[]⟩ q.2.2.1 q.2.2.2.1 q.2.2.2.2.1] [] q.2.2.2.2.2]}
 |[.Call (.Name n p) [.Lambda ⟨[],[],none,[],[],none,[]⟩ b c l] [] t]=>some ⟨(n,p,b,c,l,t),rfl⟩|_=>none
def tyE(sc:ú):Ty->Ñ->Bool
 |.seq=>λe=>opt (E12 e) λq=>q.1.1 == ("tuple":Str)&&q.1.2.2.1 == ("list":Str)&&glob sc "tuple"&&glob sc "list"|t=>λe=>opt (shN e) λq=>q.1.1 == Á6 (tyN t)&&glob sc (Á6 (tyN t))
def j12:D->Bool
 |.dct=>true|_=>false
def ifB:Ñ->Bool
 |.IfExp ..=>true|_=>false
def T41(lsc sc:ú)(cs:List (Str × Nat)):Bool :=
 lsc.kind == .function&&!lsc.isCoroutine&&!lsc.isGenerator&&lsc.names.all (λy=>y.2 != .cell)&&lsc.names.all (λy=>y.2 != .free || sc.names.lookup y.1 == some .cell)&&cs.all (λp=>lsc.names.lookup p.1 == some .free)&&decide (cs.map (·.1)).Nodup
def mt:Bool->List (Str × List Str)->List (Str × Int)->Ex->ú->List Str->List Ñ->Bool
 |lm,fns,nums,.nil=>λ_ _ es=>es.isEmpty
 |lm,fns,nums,.cons a r=>λsc N es=>match es with
  |e::es=>noStar e&&!isL a&&isL r&&mt lm fns nums a sc N [e]&&mt lm fns nums r sc N es|[]=>false
 |lm,fns,nums,.var i=>λ_ N es=>opt (D82 es) λq=>N[i]? == some q.1.1&&c20 q.1.1|lm,fns,nums,.con d=>λ_ _ es=>(opt (w22 es) λq=>i92 q.1.1 d) || opt (w32 es) λ_=>j12 d|lm,fns,nums,.gint g i=>λsc _ es=>opt (D82 es) λq=>q.1.1 == g&&glob sc q.1.1&&nums.contains (g,i)|lm,fns,nums,.tup as=>λsc N es=>opt (w42 es) λq=>isL as&&mt lm fns nums as sc N q.1.1|lm,fns,nums,.lst as=>λsc N es=>opt (w52 es) λq=>isL as&&mt lm fns nums as sc N q.1.1|lm,fns,nums,.bin o a b=>λsc N es=>opt (w62 es) λq=>q.1.2.1 == opB o&&!isL a&&!isL b&&mt lm fns nums a sc N [q.1.1]&&mt lm fns nums b sc N [q.1.2.2.1]|lm,fns,nums,.cmp o a b=>λsc N es=>opt (w72 es) λq=>q.1.2.1 == opC o&&s30 q.1.2.2.1&&!isL a&&!isL b&&mt lm fns nums a sc N [q.1.1]&&mt lm fns nums b sc N [q.1.2.2.1]|lm,fns,nums,.neg a=>λsc N es=>opt (w82 es) λq=>!isL a&&mt lm fns nums a sc N [q.1.1]|lm,fns,nums,.not a=>λsc N es=>opt (w92 es) λq=>!isL a&&!ifB q.1.1&&mt lm fns nums a sc N [q.1.1]|lm,fns,nums,.and a b=>λsc N es=>opt (x02 es) λq=>!isL a&&!isL b&&!ifB q.1.1&&mt lm fns nums a sc N [q.1.1]&&(if q.1.2.2.1.isEmpty then !ifB q.1.2.1&&mt lm fns nums b sc N [q.1.2.1] else mt lm fns nums b sc N [.BoolOp .And (q.1.2.1::q.1.2.2.1) q.1.2.2.2])|lm,fns,nums,.or a b=>λsc N es=>opt (D92 es) λq=>!isL a&&!isL b&&!ifB q.1.1&&mt lm fns nums a sc N [q.1.1]&&(if q.1.2.2.1.isEmpty then !ifB q.1.2.1&&mt lm fns nums b sc N [q.1.2.1] else mt lm fns nums b sc N [.BoolOp .Or (q.1.2.1::q.1.2.2.1) q.1.2.2.2])|lm,fns,nums,.orT a b=>λsc N es=>opt (D92 es) λq=>!isL a&&!isL b&&q.1.2.2.1.isEmpty&&mt lm fns nums a sc N [q.1.1]&&mt lm fns nums b sc N [q.1.2.1]|lm,fns,nums,.ite c a b=>λsc N es=>opt (x12 es) λq=>!isL c&&!isL a&&!isL b&&!ifB q.1.1&&mt lm fns nums c sc N [q.1.1]&&mt lm fns nums a sc N [q.1.2.1]&&mt lm fns nums b sc N [q.1.2.2.1]|lm,fns,nums,.ch o o' a b c=>λsc N es=>opt (K62 es) λq=>q.1.2.1 == opC o&&q.1.2.2.1 == opC o'&&s30 q.1.2.2.2.2.1&&!isL a&&!isL b&&!isL c&&mt lm fns nums a sc N [q.1.1]&&mt lm fns nums b sc N [q.1.2.2.2.1]&&mt lm fns nums c sc N [q.1.2.2.2.2.1]|lm,fns,nums,.bf f as=>λsc N es=>opt (E02 es) λq=>served f&&q.1.1 == (bfN f).1&&glob sc q.1.1&&isL as&&mt lm fns nums as sc N (q.1.2.2.1::q.1.2.2.2.1)|lm,fns,nums,.isi t a=>λsc N es=>opt (x22 es) λq=>q.1.1 == ("isinstance":Str)&&glob sc q.1.1&&noStar q.1.2.2.1&&!isL a&&mt lm fns nums a sc N [q.1.2.2.1]&&tyE sc t q.1.2.2.2.1|lm,fns,nums,.idx a i=>λsc N es=>opt (K72 es) λq=>V00 q.1.2.1&&!isL a&&!isL i&&mt lm fns nums a sc N [q.1.1]&&mt lm fns nums i sc N [q.1.2.1]|lm,fns,nums,.sl a lo hi=>λsc N es=>opt (K82 es) λq=>!isL a&&isL lo&&isL hi&&mt lm fns nums a sc N [q.1.1]&&mt lm fns nums lo sc N q.1.2.1.toList&&mt lm fns nums hi sc N q.1.2.2.1.toList|lm,fns,nums,.call f as=>λsc N es=>opt (E02 es) λq=>(opt fns[f]? λp=>p.1 == q.1.1&&p.2.length == q.1.2.2.2.1.length + 1)&&glob sc q.1.1&&isL as&&mt lm fns nums as sc N (q.1.2.2.1::q.1.2.2.2.1)
 |lm,fns,nums,.comp own capt p it src cond el=>λsc N es=>opt (j02 es) λq =>
   (d00 q.1.2.1).length == own&&(b40 N capt).length == capt.length&&O70 q.1.2.2.2.2.1 sc N (d00 q.1.2.1) (b40 N capt)&&i80 (d00 q.1.2.1++(b40 N capt).map (·.1)) (λx=>(d00 q.1.2.1).contains x) p q.1.2.1&&isL src&&!isL el&&isL cond&&q.1.2.2.2.1.length<=1&&noStar q.1.1&&s30 q.1.2.2.1 &&
    q.1.2.2.2.1.all (λc=>!ifB c) &&
    (match it with
    |.seq=>mt lm fns nums src sc N [q.1.2.2.1]|.rng1=>opt (x32 q.1.2.2.1) λr=>r.1.1 == ("range":Str)&&glob sc r.1.1&&mt lm fns nums src sc N [r.1.2.2.1]|.rng2=>opt (a12 q.1.2.2.1) λr=>r.1.1 == ("range":Str)&&glob sc r.1.1&&mt lm fns nums src sc N [r.1.2.2.1,r.1.2.2.2.1]|.zip=>opt (a12 q.1.2.2.1) λr=>r.1.1 == ("zip":Str)&&glob sc r.1.1&&s40 q.1.2.1&&mt lm fns nums src sc N [r.1.2.2.1,r.1.2.2.2.1]
    )&&mt false fns nums cond q.1.2.2.2.2.1 (d00 q.1.2.1++(b40 N capt).map (·.1)) q.1.2.2.2.1&&mt false fns nums el q.1.2.2.2.2.1 (d00 q.1.2.1++(b40 N capt).map (·.1)) [q.1.1]
 |lm,fns,nums,.lrng b as=>λsc N es=>opt (L02 es) λq=>q.1.1 == lrN b&&q.1.2.2.1 == ("range":Str)&&glob sc (lrN b)&&glob sc "range"&&isL as&&decide (1<=q.1.2.2.2.2.1.length/\q.1.2.2.2.2.1.length<=2)&&mt lm fns nums as sc N q.1.2.2.2.2.1|lm,fns,nums,.zget i k=>λ_ N es=>opt (K92 es) λq=>N[i]? == some q.1.1&&c20 q.1.1&&q.1.2.2.1 == (k:Int)|lm,fns,nums,.dkeys a=>λsc N es=>opt (K42 es) λq=>O70 q.1.2.2.2.2.2.2.1 sc N [q.1.1] []&&c20 q.1.1&&s30 q.1.2.2.2.2.2.1&&!isL a&&mt lm fns nums a sc N [q.1.2.2.2.2.2.1]|lm,fns,nums,.memk o a i=>λsc N es=>opt (K52 o es) λq=>N[i]? == some q.1.2.1&&c20 q.1.2.1&&!isL a&&mt lm fns nums a sc N [q.1.1]|lm,fns,nums,.refd capt a=>λsc N es=>opt (x42 es) λq=>lm&&q.1.1 == ("_law_refused":Str)&&glob sc "_law_refused"&&(b40 N capt).length == capt.length&&T41 q.1.2.2.2.1 sc (b40 N capt)&&!isL a&&mt false fns nums a q.1.2.2.2.1 ((b40 N capt).map (·.1)) [q.1.2.2.1]
theorem d80{sc:ú}{x:Str}(h:glob sc x=true):sc.names.lookup x=some .globalImplicit/\(x == ("__debug__":Str))=false/\x≠"__name__":=by
 unfold glob at h;simp only[Â,î,beq_iff_eq] at h;refine⟨h.1.1,h.1.2,λe=>?_⟩;subst e;simp at h
section
variable {lm:Bool}{X:Cx}{G:Gs}{E:XK}{N:List Str}{sc:ú}
theorem j22{K:Á}{zA:Option Æ}{H0 H:Hp}{s:S}{v:V}(h:RvP K zA H s v):RvS K zA H0 H (plS s) v:=by cases s <;> exact h
theorem T51(h:(!ifB e)=true):∀ t a b p,e≠.IfExp t a b p:=by
 intro t a b p he;subst he;cases h
theorem a80(hL:isL x=false)(h:Good X G E x [e]):a90 X G E x e:=by
 cases x with
 |nil=>cases hL
 |cons _ _=>cases hL
 |_ =>
  obtain⟨e',h1,h2⟩:=(show ∃ e',[e]=[e']/\a90 X G E _ e' from h);cases h1;exact h2
theorem b70(hL:isL x=false)(h:a90 X G E x e):Good X G E x [e]:=by
 cases x with
 |nil=>cases hL
 |cons _ _=>cases hL
 |_=>exact⟨e,rfl,h⟩
theorem e70(po:U90 X.K G zA E H Q r):∀ c z1,r=.er c z1->EPost G zA E c z1 H:=λc z1 e=>by subst e;exact po
theorem O80(po:F51 G zA E H Q r):∀ c z1,r=.er c z1->EPost G zA E c z1 H:=λc z1 e=>by subst e;exact po
theorem x52(x:XI lm X G E N sc){i:Nat}{n:Str}{pos:Pos}(h1:N[i]?=some n)(h2:c20 n=true):a90 X G E (.var i) (.Name n pos):=by
 unfold c20 at h2;simp only[Â,î] at h2;refine b10 (PE.imp (m50 (i:=i) (by rw[x.hN];exact h1) (x.vis n (ì h1)) h2.1 h2.2) λσ H Q q=>?_) rfl
 obtain⟨zA,ρ,z,r,rel,st,e,po⟩:=q;have e':(match ρ[i]? with | some (some s)=>M.ret [plS s] | _=>M.no) z=some r:=e
 cases hs:ρ[i]? with
 |none=>rw[hs] at e';cases e'
 |some o =>
  cases o with
  |none=>rw[hs] at e';cases e'
  |some s =>
   rw[hs] at e';cases e';obtain⟨v,hv,rv⟩:=rel i s hs;obtain⟨s',e',po⟩:=po;cases e';exact⟨v,hv,po v H Ext.refl st (j22 rv)⟩
theorem x62(h:i92 c d=true):a90 X G E (.con d) (.Constant c j pos):=by
 refine b10 ?_ rfl;have fin:∀ {v:V},(∀ H,Hd X.K H d v)->∀ σ H Q,tI X.K G E (.con d) σ H Q->tC v σ H Q:=λ{v} hd σ H Q q=>by
  obtain⟨zA,ρ,z,r,rel,st,e,po⟩:=q;cases e;obtain⟨s',e',po⟩:=po;cases e';exact po v H Ext.refl st (y91 (hd _))
 cases c with
 |int i=>cases d <;> first | (simp only[i92,beq_iff_eq] at h;subst h;exact PE.imp Y30 (fin λH=>Hd.int)) | (cases h)
 |bool b=>cases d <;> first | (simp only[i92,beq_iff_eq] at h;subst h;exact PE.imp r52 (fin λH=>Hd.bl)) | (cases h)
 |str y=>cases d <;> first | (simp only[i92,beq_iff_eq] at h;subst h;exact PE.imp I91 (fin λH=>Hd.str)) | (cases h)
 |none=>cases d <;> first | exact PE.imp j91 (fin λH=>Hd.non) | (cases h)
 |_=>cases h
theorem x72:a90 X G E (.con .dct) (.Dict [] [] pos):=by
 refine b10 (PE.imp Q11 λσ H Q q=>?_) rfl;obtain⟨zA,ρ,z,r,rel,st,e,po⟩:=q;cases e;obtain⟨s',e',po⟩:=po;cases e';intro p hp;refine po _ _ (Ext.of (a30.new _ hp)) (st.same (a30.new _ hp)) (y91 ?_);unfold Hd;exact⟨p,[],rfl,d20 b20 (st.a21 hp)⟩
theorem j32(x:XI lm X G E N sc){g:Str}{i:Int}{pos:Pos}(h1:glob sc g=true)(h2:(g,i)∈G.nums):a90 X G E (.gint g i) (.Name g pos):=by
 obtain⟨k1,k2,_⟩:=d80 h1;obtain⟨t,ht⟩:=x.num _ h2;refine b10 (PE.imp (f00 (v:=.int i) (x.glb g k1) ht ⟨t,rfl⟩ k2) λσ H Q q=>?_) rfl;obtain⟨zA,ρ,z,r,rel,st,e,po⟩:=q;cases e;obtain⟨s',e',po⟩:=po;cases e';exact po _ H Ext.refl st i10
theorem O90{K:Á}{zA:Option Æ}{H0 H:Hp}{l:List S}{vs:List V}{ds:List D}(h:Ä3 (RvS K zA H0 H) l vs)(e:plA l=some ds):HdA K (hz zA H) ds vs:=RvA.ds (Ä3.Z21 h λ_ _ q=>q.pl) e
theorem x82{as:Ex}{l:List Ñ}{k:Nat}{pos:Pos}(hL:isL as=true)(g:Good X G E as l):a90 X G E (.tup as) (.Tuple l k pos):=by
 refine b10 (PE.imp (J41 (g.args hL).1) λσ H Q q=>?_) rfl;obtain⟨zA,ρ,z,r,rel,st,e,po⟩:=q;refine h91 rel st e (e70 po) λl z1 e1 vs H1 x1 st1 rvs=>?_;obtain⟨ds,hd,e2⟩:=M.a20 e1;split at e2
 ·rename_i hm;cases e2;obtain⟨s',e',po⟩:=po;cases e';have h:=O90 rvs hd;exact⟨e40 (by rw[h.length];exact hm),λp hp=>po _ _ (x1.trans (Ext.of (a30.new _ hp))) (st1.same (a30.new _ hp)) (y91 (Hd.tup ((st1.same (a30.new _ hp)).R31 (SqT.of b20)) (h.same (j40 (a30.new _ hp)))))⟩
 ·cases e2
theorem x92{as:Ex}{l:List Ñ}{pos:Pos}(hL:isL as=true)(g:Good X G E as l):a90 X G E (.lst as) (.List l pos):=by
 refine b10 (PE.imp (J51 (g.args hL).1) λσ H Q q=>?_) rfl;obtain⟨zA,ρ,z,r,rel,st,e,po⟩:=q;refine h91 rel st e (e70 po) λl z1 e1 vs H1 x1 st1 rvs=>?_;obtain⟨ds,hd,e2⟩:=M.a20 e1;split at e2
 ·rename_i hm;cases e2;obtain⟨s',e',po⟩:=po;cases e';have h:=O90 rvs hd;exact⟨e40 (by rw[h.length];exact hm),λp hp=>po _ _ (x1.trans (Ext.of (a30.new _ hp))) (st1.same (a30.new _ hp)) ((p70 st1 h hp).from x1)⟩
 ·cases e2
theorem a71{α:Type}{a b:Ex}{k:D->D->M α}{zA:Option Æ}{ρ:Env}{z:Z}{r:R α}{σ:L2.St}{H:Hp}{Q:V->V->Hp->Prop}(rel:w50 X.K zA H ρ σ)(st:d50 zA z H)
  (h:M.bind (ev G.F a ρ) (λx=>M.bind (M.of (pl x)) λx=>M.bind (ev G.F b ρ) λy=>M.bind (M.of (pl y)) λy=>k x y) z=some r) (her:∀ c z1,r=.er c z1->EPost G zA E c z1 H)
  (hk:∀ dx dy z2 v w H2,k dx dy z2=some r->Ext zA H H2->d50 zA z2 H2->Hd X.K (hz zA H2) dx v->Hd X.K (hz zA H2) dy w->Q v w H2) :
  tI X.K G E a σ H λv H1=>tI X.K G E b σ H1 λw H2=>Q v w H2:=by
 refine j50 rel st h her λl z1 e1=>?_;obtain⟨dx,p1,e2⟩:=M.a20 e1;obtain⟨s1,rfl,q1⟩:=e90 p1;refine⟨s1,rfl,λv H1 x1 st1 rv=>?_⟩;refine j50 (rel.mono x1) st1 e2 (λc z2 q=>(her c z2 q).mono x1) λm z2 e3=>?_;obtain⟨dy,p2,e4⟩:=M.a20 e3;obtain⟨s2,rfl,q2⟩:=e90 p2;exact⟨s2,rfl,λw H2 x2 st2 rw'=>hk dx dy z2 v w H2 e4 (x1.trans x2) st2 ((rv.pl.mono x2).d_ q1) (rw'.pl.d_ q2)⟩
theorem e10{zA:Option Æ}{H H2:Hp}{z2:Z}{s:S}{Q:VK}(po:U90 X.K G zA E H Q (.ok [s] z2))(x:Ext zA H H2)(st:d50 zA z2 H2):∀ v H',a30 H2 H'->RvS X.K zA H2 H' s v->Q v H':=λv H' sm rv=>by
 obtain⟨s',e',po⟩:=po;cases e';exact po v H' (x.trans (Ext.of sm)) (st.same sm) (rv.from x)
theorem y02(ga:a90 X G E a l)(gb:a90 X G E b r):a90 X G E (.bin o a b) (.BinOp l (opB o) r pos):=by
 refine b10 (PE.imp (z91 (opD o) ga.pe gb.pe) λσ H Q q=>?_) rfl;obtain⟨zA,ρ,z,rr,rel,st,e,po⟩:=q;refine a71 rel st e (e70 po) λdx dy z2 v w H2 e2 x2 st2 h1 h2=>?_;obtain⟨s,hs,e3⟩:=M.a20 e2;cases e3;exact⟨zA,z2,dx,dy,s,st2,h1,h2,hs,e10 po x2 st2⟩
theorem q81(po:F51 G zA E H Q r):U90 X.K G zA E H (λx H'=>∃ k,x=.bl k/\Q k H') r:=by
 cases r with
 |er c z1=>exact po
 |ok l z1 =>
  obtain⟨b,rfl,po⟩:=po;exact⟨_,rfl,λv H' ex st' rv=>⟨b,Hd.bl_ (show Hd X.K (hz zA H') (.bl b) v from rv),po H' ex st'⟩⟩
theorem y12(x:XI lm X G E N sc)(hs:s30 r=true)(ga:a90 X G E a l)(gb:a90 X G E b r):a90 X G E (.cmp o a b) (.Compare l [opC o] [r] pos):=by
 have key:∀ σ H Q,tI X.K G E (.cmp o a b) σ H Q->tOp (rD2 X.K λa b=>(C80 o a b).map λc=>.d (.bl c)) (tI X.K G E a) (tI X.K G E b) σ H Q:=λσ H Q q=>by
  obtain⟨zA,ρ,z,rr,rel,st,e,po⟩:=q;refine a71 rel st e (e70 po) λdx dy z2 v w H2 e2 x2 st2 h1 h2=>?_;obtain⟨c,hc,e3⟩:=M.a20 e2;cases e3;exact⟨zA,z2,dx,dy,_,st2,h1,h2,by show Ë2 _ (C80 o dx dy)=_;rw[hc];rfl,e10 po x2 st2⟩
 refine⟨PE.imp (k71 (a02 x.room.units o) ga.pe gb.pe (q71 hs _)) key,λ_=>PT.imp (k81 (a02 x.room.units o) ga.pe gb.pe (q71 hs _)) λσ H Q q=>?_,λop vs p h=>by cases h⟩
 obtain⟨zA,ρ,z,rr,rel,st,e,po⟩:=q;exact key σ H _ ⟨zA,ρ,z,rr,rel,st,e,q81 po⟩
theorem y22(ga:a90 X G E a l):a90 X G E (.neg a) (.UnaryOp .USub l pos):=by
 refine b10 (PE.imp (s62 c82 ga.pe) λσ H Q q=>?_) rfl;obtain⟨zA,ρ,z,rr,rel,st,e,po⟩:=q;refine j50 rel st e (e70 po) λm z1 e1=>?_;obtain⟨i,p1,e2⟩:=M.a20 e1;obtain⟨d,p2,p3⟩:=Í.mp p1;obtain⟨s1,rfl,q1⟩:=e90 p2;cases e2;refine⟨s1,rfl,λv H1 x1 st1 rv=>?_⟩;have hd:=rv.pl.d_ q1;cases d with
 |int j =>
  cases p3;exact⟨i,hd.j30,e10 po x1 st1 _ _ (a30.refl H1) i10⟩
 |_=>cases p3
theorem y32(ga:a90 X G E a l)(hn:∀ t x y p,l≠.IfExp t x y p):a90 X G E (.not a) (.UnaryOp .Not l pos):=by
 refine⟨PE.imp (b52 ga.pe) λσ H Q q=>?_,λ_=>PT.imp (J01 (ga.pt hn)) λσ H Q q=>?_,λop vs p h=>by cases h⟩
 ·obtain⟨zA,ρ,z,rr,rel,st,e,po⟩:=q;refine j50 rel st e (e70 po) λm z1 e1=>?_;obtain⟨b,p1,e2⟩:=M.a20 e1;obtain⟨d,p2,p3⟩:=Í.mp p1;obtain⟨s1,rfl,q1⟩:=e90 p2;cases e2;refine⟨s1,rfl,λv H1 x1 st1 rv=>?_⟩;have hd:=rv.pl.d_ q1;cases d with
  |bl c =>
   cases p3;exact⟨b,hd.bl_,e10 po x1 st1 _ _ (a30.refl H1) h30⟩
  |_=>cases p3
 ·obtain⟨zA,ρ,z,rr,rel,st,e,po⟩:=q;refine O60 rel st e (O80 po) λb z1 e1 H1 x1 st1=>?_;cases e1;obtain⟨b',e',po⟩:=po;cases e';exact po H1 x1 st1
end
end Q
namespace Q
open PySem L2 PySem.Spec PyProof.Rows
variable [TB:Tb]
section
variable {lm:Bool}{X:Cx}{G:Gs}{E:XK}{N:List Str}{sc:ú}
theorem J50(rel:w50 X.K zA H ρ σ)(st:d50 zA z H)
  (h:M.bind (ev G.F a ρ) (λx=>M.bind (M.of ((pl x).bind asB)) k) z=some r) (her:∀ c z1,r=.er c z1->EPost G zA E c z1 H)
  (hok:∀ b z1,k b z1=some r->∀ H1,Ext zA H H1->d50 zA z1 H1->Q' (.bl b) H1):tI X.K G E a σ H Q':=by
 refine j50 rel st h her λm z1 e1=>?_;obtain⟨b,p1,e2⟩:=M.a20 e1;obtain⟨d,p2,p3⟩:=Í.mp p1;obtain⟨s1,rfl,q1⟩:=e90 p2;refine⟨s1,rfl,λv H1 x1 st1 rv=>?_⟩;have hd:=rv.pl.d_ q1;cases d with
 |bl c =>
  cases p3;rw[hd.bl_];exact hok b z1 e2 H1 x1 st1
 |_=>cases p3
theorem y42(ga:a90 X G E a l)(hl:∀ t x y p,l≠.IfExp t x y p)
  (gb:a90 X G E b (.BoolOp .And (r::vs) p)):a90 X G E (.and a b) (.BoolOp .And (l::r::vs) p):=by
 have pw:PW X (.BoolOp .And (l::r::vs) p) (tT X.K G E (.and a b)):=by
  refine PW.imp (b22 (ga.pt hl) (gb.pw _ _ _ rfl)) λσ H Q q=>?_;obtain⟨zA,ρ,z,rr,rel,st,e,po⟩:=q;refine O60 rel st e (O80 po) λc z1 e1 H1 x1 st1=>?_;cases c with
  |true =>
   rw[if_pos rfl];rw[if_pos rfl] at e1;refine O60 (rel.mono x1) st1 e1 (λc z2 q=>((O80 po) c z2 q).mono x1) λc z2 e2 H2 x2 st2=>?_;cases e2;obtain⟨b',e',po⟩:=po;cases e';exact po H2 (x1.trans x2) st2
  |false =>
   rw[if_neg Ð];rw[if_neg Ð] at e1;cases e1;obtain⟨b',e',po⟩:=po;cases e';exact po H1 x1 st1
 refine⟨PE.imp (b42 ga.pe gb.pe) λσ H Q q=>?_,λ_=>pw.pt,λop vs p h=>pw⟩;obtain⟨zA,ρ,z,rr,rel,st,e,po⟩:=q;refine J50 rel st e (e70 po) λc z1 e1 H1 x1 st1=>⟨c,rfl,?_⟩;cases c with
 |true =>
  rw[if_pos rfl];rw[if_pos rfl] at e1;refine J50 (rel.mono x1) st1 e1 (λc z2 q=>((e70 po) c z2 q).mono x1) λc z2 e2 H2 x2 st2=>?_;cases e2;exact e10 po (x1.trans x2) st2 _ _ (a30.refl H2) h30
 |false =>
  rw[if_neg Ð];rw[if_neg Ð] at e1;cases e1;exact e10 po x1 st1 _ _ (a30.refl H1) h30
theorem L12(ga:a90 X G E a l)(hl:∀ t x y p,l≠.IfExp t x y p)
  (gb:a90 X G E b (.BoolOp .Or (r::vs) p)):a90 X G E (.or a b) (.BoolOp .Or (l::r::vs) p):=by
 have pw:PW X (.BoolOp .Or (l::r::vs) p) (tT X.K G E (.or a b)):=by
  refine PW.imp (r62 (ga.pt hl) (gb.pw _ _ _ rfl)) λσ H Q q=>?_;obtain⟨zA,ρ,z,rr,rel,st,e,po⟩:=q;refine O60 rel st e (O80 po) λc z1 e1 H1 x1 st1=>?_;cases c with
  |false =>
   rw[if_neg Ð];rw[if_neg Ð] at e1;refine O60 (rel.mono x1) st1 e1 (λc z2 q=>((O80 po) c z2 q).mono x1) λc z2 e2 H2 x2 st2=>?_;cases e2;obtain⟨b',e',po⟩:=po;cases e';exact po H2 (x1.trans x2) st2
  |true =>
   rw[if_pos rfl];rw[if_pos rfl] at e1;cases e1;obtain⟨b',e',po⟩:=po;cases e';exact po H1 x1 st1
 refine⟨PE.imp (r92 ga.pe gb.pe) λσ H Q q=>?_,λ_=>pw.pt,λop vs p h=>pw⟩;obtain⟨zA,ρ,z,rr,rel,st,e,po⟩:=q;refine J50 rel st e (e70 po) λc z1 e1 H1 x1 st1=>⟨c,rfl,?_⟩;cases c with
 |false =>
  rw[if_neg Ð];rw[if_neg Ð] at e1;refine J50 (rel.mono x1) st1 e1 (λc z2 q=>((e70 po) c z2 q).mono x1) λc z2 e2 H2 x2 st2=>?_;cases e2;exact e10 po (x1.trans x2) st2 _ _ (a30.refl H2) h30
 |true =>
  rw[if_pos rfl];rw[if_pos rfl] at e1;cases e1;exact e10 po x1 st1 _ _ (a30.refl H1) h30
theorem j42(gb:a90 X G E b r)(hr:∀ t x y p,r≠.IfExp t x y p):a90 X G E b (.BoolOp op [r] p):=by
 have pw:PW X (.BoolOp op [r] p) (tT X.K G E b):=by
  cases op with
  |And=>exact M91 (gb.pt hr)|Or=>exact b12 (gb.pt hr)
 exact⟨b32 gb.pe,λ_=>pw.pt,λ_ _ _ _=>pw⟩
theorem U90.j52(po:U90 X.K G zA E H Q rr)(x1:Ext zA H H1):U90 X.K G zA E H1 Q rr:=by
 cases rr with
 |er c z1=>exact EPost.mono po x1
 |ok l z2 =>
  obtain⟨s,e',po⟩:=po;exact⟨s,e',λv H' x' st' rv=>po v H' (x1.trans x') st' (rv.from x1)⟩
theorem P00{α:Type}{m:M α}{z:Z}{r:R α}(h:M.calm m z=some r):m z=some r/\∃ a z1,r=.ok a z1:=by
 unfold M.calm at h;split at h
 ·rename_i a z1 e;cases h;exact⟨e,a,z1,rfl⟩
 ·cases h
theorem j62(ha:PE X a ta)(hb:PE X b tb):PE X (.BoolOp .Or [a,b] pos) (λσ H Q=>ta σ H λx H1=>∃ t xs,x=.ref t/\SqT X.K H1 t xs/\if xs.isEmpty=true then tb σ H1 Q else Q x H1):=by
 intro pins s σ H Q I h;refine BoolOp_or (thn (ha pins s σ H _ I h) λv s1 ⟨x,H1,I1,r1,q1⟩=>?_);obtain⟨t,xs,rfl,hq,q1⟩:=q1;obtain⟨its,hv,ht,hl⟩:=I1.tuple hq;have hlen:xs.length=its.length:=hv.length;cases r1;refine truthy_tuple ht (by rw[Õ,← hlen];have:=Â8;omega) ?_
 cases xs with
 |nil =>
  cases its with
  |nil=>exact BoolOp_one (hb pins _ σ H1 Q (I1.tok _) q1)|cons _ _=>cases hlen
 |cons y r =>
  cases its with
  |nil=>cases hlen
  |cons _ _=>exact⟨.ref t,H1,I1.tok _,rfl,q1⟩
theorem K61(h:(pl y).bind f72=some l):∃ s,y=[s]/\plD s=some (.tup l):=by
 obtain⟨d,p2,p3⟩:=Í.mp h;obtain⟨s1,rfl,q1⟩:=e90 p2;cases d with
 |tup l=>cases p3;exact⟨s1,rfl,q1⟩
 |_=>cases p3
theorem y52(ga:a90 X G E a l)(gb:a90 X G E b r):a90 X G E (.orT a b) (.BoolOp .Or [l,r] p):=by
 have no:∀ {zA:Option Æ}{ρ:Env}{z:Z}{rr:R (List S)}{H:Hp}{Q:Bool->Hp->Prop},ev G.F (.orT a b) ρ z=some rr->F51 G zA E H Q rr->False:=λe po=>by
  obtain⟨e,u,z1,rfl⟩:=P00 e;obtain⟨c,rfl,_⟩:=po;rcases M.bind_some e with ⟨m,z2,_,e2⟩ | ⟨c,z2,_,e2⟩
  ·obtain⟨ds,_,e3⟩:=M.a20 e2;split at e3
   ·rcases M.bind_some e3 with ⟨m,z2,_,e2⟩ | ⟨c,z2,_,e2⟩
    ·obtain⟨ds,_,e3⟩:=M.a20 e2;cases e3
    ·cases e2
   ·cases e3
  ·cases e2
 refine⟨PE.imp (j62 ga.pe gb.pe) λσ H Q q=>?_,λ_ pins s σ H Q I ⟨_,_,_,_,_,_,e,po⟩=>(no e po).elim,λ_ _ _ _ wh pins s σ H Q I ⟨_,_,_,_,_,_,e,po⟩=>(no e po).elim⟩;obtain⟨zA,ρ,z,rr,rel,st,e,po⟩:=q;obtain⟨e,u,z1,rfl⟩:=P00 e;refine j50 rel st e (e70 po) λm z1 e1=>?_;obtain⟨ds,p1,e2⟩:=M.a20 e1;obtain⟨s1,rfl,q1⟩:=K61 p1;refine⟨s1,rfl,λv H1 x1 st1 rv=>?_⟩;have hd:=rv.pl.d_ q1;obtain⟨t,xs,rfl,h1,h2⟩:=hd.y20;refine⟨t,xs,rfl,(a10 zA H1).sqT h1,?_⟩;cases ds with
 |nil =>
  cases h2.e30;have po:=po.j52 x1;refine j50 (rel.mono x1) st1 e2 (e70 po) λm z1 e1=>?_;obtain⟨ds,p1,e2⟩:=M.a20 e1;obtain⟨s1,rfl,q1⟩:=K61 p1;cases e2;exact⟨s1,rfl,λv H2 x2 st2 rv=>e10 po x2 st2 _ _ (a30.refl H2) (rv.pl.d_ q1)⟩
 |cons y r =>
  obtain⟨u,w,rfl,_⟩:=h2.b90;cases e2;exact e10 po x1 st1 _ _ (a30.refl H1) hd
theorem y62(gc:a90 X G E c t)(ht:∀ a b d p,t≠.IfExp a b d p)(ga:a90 X G E a x)(gb:a90 X G E b y):a90 X G E (.ite c a b) (.IfExp t x y p):=by
 refine⟨PE.imp (z61 (gc.pt ht) ga.pe gb.pe) λσ H Q q=>?_,λh=>absurd rfl (h t x y p),λop vs p h=>by cases h⟩
 obtain⟨zA,ρ,z,rr,rel,st,e,po⟩:=q;refine O60 rel st e (e70 po) λk z1 e1 H1 x1 st1=>?_;have po1:=po.j52 x1;cases k with
 |true =>
  rw[if_pos rfl];rw[if_pos rfl] at e1;exact⟨zA,ρ,z1,rr,rel.mono x1,st1,e1,po1⟩
 |false =>
  rw[if_neg Ð];rw[if_neg Ð] at e1;exact⟨zA,ρ,z1,rr,rel.mono x1,st1,e1,po1⟩
theorem L22(x:XI lm X G E N sc)(hs:s30 s=true)(ga:a90 X G E a l)(gb:a90 X G E b r)(gc:a90 X G E c s):a90 X G E (.ch o o' a b c) (.Compare l [opC o,opC o'] [r,s] pos):=by
 have hm:lastMarks [opC o,opC o'] [r,s]=false:=q71 hs _;have key:∀ σ H Q,tI X.K G E (.ch o o' a b c) σ H Q->k91 (rD2 X.K λa b=>(C80 o a b).map λc=>.d (.bl c)) (rD2 X.K λa b=>(C80 o' a b).map λc=>.d (.bl c)) (tI X.K G E a) (tI X.K G E b) (tI X.K G E c) σ H Q:=λσ H Q q=>by
  obtain⟨zA,ρ,z,rr,rel,st,e,po⟩:=q;refine a71 rel st e (e70 po) λdx dy z2 v w H2 e2 x2 st2 h1 h2=>?_;obtain⟨k,hk,e3⟩:=M.a20 e2;refine⟨zA,z2,dx,dy,.d (.bl k),st2,h1,h2,by show Ë2 _ (C80 o dx dy)=_;rw[hk];rfl,λv3 H3 sm rv=>⟨k,Hd.bl_ (show Hd X.K (hz zA H3) (.bl k) v3 from rv),?_⟩⟩
  have x3:=x2.trans (Ext.of sm);have st3:=st2.same sm;cases k with
  |true =>
   rw[if_pos rfl];rw[if_pos rfl] at e3;refine j50 (rel.mono x3) st3 e3 (λc z2 q=>((e70 po) c z2 q).mono x3) λm z4 e4=>?_;obtain⟨dw,p1,e5⟩:=M.a20 e4;obtain⟨k',hk',e6⟩:=M.a20 e5;obtain⟨s1,rfl,q1⟩:=e90 p1;cases e6;refine⟨s1,rfl,λv4 H4 x4 st4 rv4=>?_⟩;exact⟨zA,z4,dy,dw,_,st4,(h2.same (a30.trans (j40 sm) x4)),rv4.pl.d_ q1,by show Ë2 _ (C80 o' dy dw)=_;rw[hk'];rfl,e10 po (x3.trans x4) st4⟩
  |false =>
   rw[if_neg Ð];rw[if_neg Ð] at e3;cases e3;exact e10 po x3 st3 _ _ (a30.refl H3) h30
 refine⟨PE.imp (A01 (a02 x.room.units o) (a02 x.room.units o') ga.pe gb.pe gc.pe hm) key,λ_=>PT.imp (A11 (a02 x.room.units o) (a02 x.room.units o') ga.pe gb.pe gc.pe hm) λσ H Q q=>?_,λop vs p h=>by cases h⟩
 obtain⟨zA,ρ,z,rr,rel,st,e,po⟩:=q;exact key σ H _ ⟨zA,ρ,z,rr,rel,st,e,q81 po⟩
theorem K71:∀ σ H Q,tI X.K G E (.bf f as) σ H Q->tCB (rDn X.K (bfD f)) (tA X.K G E as) σ H Q:=λσ H Q q=>by
 obtain⟨zA,ρ,z,rr,rel,st,e,po⟩:=q;refine h91 rel st e (e70 po) λl z1 e1 vs H1 x1 st1 rvs=>?_;obtain⟨ds,hd,e2⟩:=M.a20 e1;obtain⟨s,hs,e3⟩:=M.a20 e2;cases e3;exact⟨zA,z1,ds,s,st1,O90 rvs hd,hs,e10 po x1 st1⟩
theorem V10(x:XI lm X G E N sc){f:Bf}{as:Ex}{n:Str}{id:String}{e:Ñ}{l:List Ñ}{p pos:Pos}(hc:e60 X (.builtin id) (rDn X.K (bfD f)))(hb:n∈T31)(hv:ð n=some (.builtin id))(hg:glob sc n=true)(hL:isL as=true)(g:Good X G E as (e::l)):a90 X G E (.bf f as) (.Call (.Name n p) (e::l) [] pos):=by
 obtain⟨k1,k2,k3⟩:=d80 hg;obtain⟨ha,hs⟩:=g.args hL;rw[Å2,Â] at hs;exact b10 (PE.imp (y00 hc (x.glb n k1) (x.blt n hb) hv ha k3 k2 (c90 hs.1 l X.env) (s20 X.env pos hs.2)) K71) rfl
theorem T61(x:XI lm X G E N sc){f:Bf}{as:Ex}{n:Str}{T:String}{e:Ñ}{l:List Ñ}{p pos:Pos}(hc:e60 X (.type T) (rDn X.K (bfD f)))(hb:n∈T31)(hv:ð n=some (.type T))(hg:glob sc n=true)(hL:isL as=true)(g:Good X G E as (e::l)):a90 X G E (.bf f as) (.Call (.Name n p) (e::l) [] pos):=by
 obtain⟨k1,k2,k3⟩:=d80 hg;obtain⟨ha,hs⟩:=g.args hL;rw[Å2,Â] at hs;exact b10 (PE.imp (l21 hc (x.glb n k1) (x.blt n hb) hv ha k3 k2 (c90 hs.1 l X.env) (s20 X.env pos hs.2)) K71) rfl
theorem j72:ð "len"=some (.builtin "len"):=by decide +kernel
theorem q91:ð "sorted"=some (.builtin "sorted"):=by decide +kernel
theorem j82:ð "all"=some (.builtin "all"):=by decide +kernel
theorem j92:ð "any"=some (.builtin "any"):=by decide +kernel
theorem k02:ð "sum"=some (.builtin "sum"):=by decide +kernel
theorem k12:ð "min"=some (.builtin "min"):=by decide +kernel
theorem k22:ð "max"=some (.builtin "max"):=by decide +kernel
theorem s50:ð "isinstance"=some (.builtin "isinstance"):=by decide +kernel
theorem k32:ð "int"=some (.type "int"):=by decide +kernel
theorem J60:ð "tuple"=some (.type "tuple"):=by decide +kernel
theorem V20:ð "list"=some (.type "list"):=by decide +kernel
theorem L32(x:XI lm X G E N sc){f:Bf}{as:Ex}{n:Str}{e:Ñ}{l:List Ñ}{p pos:Pos}(hf:served f=true)(hn:n=(bfN f).1)(hg:glob sc n=true)(hL:isL as=true)(g:Good X G E as (e::l)):a90 X G E (.bf f as) (.Call (.Name n p) (e::l) [] pos):=by
 subst hn;cases f with
 |len=>exact V10 x h52 (-0) j72 hg hL g|tuple=>exact T61 x E91 (-0) J60 hg hL g|list=>exact T61 x S41 (-0) V20 hg hL g|min=>exact V10 x (h92 x.calm) (-0) k12 hg hL g|max=>exact V10 x (i02 x.calm) (-0) k22 hg hL g|all=>exact V10 x (h62 x.calm) (-0) j82 hg hL g|any=>exact V10 x (h82 x.calm) (-0) j92 hg hL g|int=>exact T61 x i22 (-0) k32 hg hL g|sorted=>exact V10 x (q51 x.room.units) (-0) q91 hg hL g|sum=>exact V10 x (h72 x.calm) (-0) k02 hg hL g|_=>cases hf
theorem y72(t:Ty)(h:t≠.seq):Á6 (tyN t)∈T31/\ð (Á6 (tyN t))=some (.type (tyN t))/\tyN t∈["int","bool","tuple","list","str"]:=by
 cases t with
 |seq=>exact absurd rfl h|_=>decide +kernel
theorem k42(x:XI lm X G E N sc){t:Ty}{a:Ex}{n:Str}{e:Ñ}{p pos p2:Pos}(hs:t≠.seq)
  (hg2:glob sc (Á6 (tyN t))=true) (hn:n="isinstance") (hg:glob sc n=true) (ns:noStar e=true) (ga:a90 X G E a e):a90 X G E (.isi t a) (.Call (.Name n p) [e,.Name (Á6 (tyN t)) p2] [] pos):=by
 obtain⟨hb,hv,ht⟩:=y72 t hs;subst hn;obtain⟨k1,k2,k3⟩:=d80 hg;obtain⟨m1,m2,m3⟩:=d80 hg2;refine b10 (PE.imp (y00 D01 (x.glb _ k1) (x.blt _ (-0)) s50 (e00 ga.pe (e00 (G30 (v:=.ty (tyN t)) (x.glb _ m1) (x.blt _ hb) hv rfl m3 m2) r50) (c90 ns _ _)) k3 k2 (c90 ns _ _) rfl) λσ H Q q=>?_) rfl
 obtain⟨zA,ρ,z,rr,rel,st,e,po⟩:=q;refine j50 rel st e (e70 po) λm z1 e1=>?_;obtain⟨d,p1,e2⟩:=M.a20 e1;obtain⟨s1,rfl,q1⟩:=e90 p1;cases e2;refine⟨s1,rfl,λv H1 x1 st1 rv=>⟨d,v,tyN t,rfl,((rv.pl.d_ q1).same (a10 zA H1)).has,ht,?_⟩⟩;rw[S51 t d hs];exact e10 po x1 st1 _ _ (a30.refl H1) h30
theorem k52(x:XI lm X G E N sc){a:Ex}{n:Str}{e:Ñ}{p pos p1 p2 p3:Pos}{k:Nat}(hg2:glob sc "tuple"=true)(hg3:glob sc "list"=true)(hn:n="isinstance")(hg:glob sc n=true)(ns:noStar e=true)(ga:a90 X G E a e) :
  a90 X G E (.isi .seq a) (.Call (.Name n p) [e,.Tuple [.Name "tuple" p1,.Name "list" p2] k p3] [] pos):=by
 subst hn;obtain⟨k1,k2,k3⟩:=d80 hg;obtain⟨m1,m2,m3⟩:=d80 hg2;obtain⟨l1,l2,l3⟩:=d80 hg3;refine b10 (PE.imp (y00 o21 (x.glb _ k1) (x.blt _ (-0)) s50 (e00 ga.pe (e00 (J41 (e00 (G30 (v:=.ty "tuple") (x.glb _ m1) (x.blt _ (-0)) J60 rfl m3 m2)
  (e00 (G30 (v:=.ty "list") (x.glb _ l1) (x.blt _ (-0)) V20 rfl l3 l2) r50))) r50) (c90 ns _ _)) k3 k2 (c90 ns _ _) rfl) λσ H Q q=>?_) rfl
 obtain⟨zA,ρ,z,rr,rel,st,e,po⟩:=q;refine j50 rel st e (e70 po) λm z1 e1=>?_;obtain⟨d,p1,e2⟩:=M.a20 e1;obtain⟨s1,rfl,q1⟩:=e90 p1;cases e2;refine⟨s1,rfl,λv H1 x1 st1 rv=>⟨by show 2<=sizeLine;rw[Â8];decide,λt ht=>?_⟩⟩
 have sm:a30 H1 (upd H1 t (.tup [.ty "tuple",.ty "list"])):=a30.new _ ht;refine⟨d,v,t,rfl,((rv.pl.d_ q1).same (a30.trans (a10 zA H1) sm)).has,SqT.of b20,?_⟩;rw[F21 d];exact e10 po x1 st1 _ _ sm h30
theorem y82(hs:V00 x=true)(ga:a90 X G E a v)(gi:a90 X G E i x):a90 X G E (.idx a i) (.Subscript v x pos):=by
 refine b10 (PE.imp (N91 ixD ga.pe gi.pe (E10 hs)) λσ H Q q=>?_) rfl;obtain⟨zA,ρ,z,rr,rel,st,e,po⟩:=q;refine a71 rel st e (e70 po) λdx dy z2 v w H2 e2 x2 st2 h1 h2=>?_;obtain⟨c,hc,e3⟩:=M.a20 e2;cases e3;exact⟨zA,z2,dx,dy,_,st2,h1,h2,by show Ë2 _ (L40 dx dy)=_;rw[hc];rfl,e10 po x2 st2⟩
theorem k62(x:XI lm X G E N sc){i k:Nat}{n:Str}{c:Nat}{p q pos:Pos}(h1:N[i]?=some n)(h2:c20 n=true):a90 X G E (.zget i k) (.Subscript (.Name n p) (.Constant (.int k) c q) pos):=by
 unfold c20 at h2;simp only[Â,î] at h2;refine b10 (PE.imp (N91 S70 (m50 (i:=i) (by rw[x.hN];exact h1) (x.vis n (ì h1)) h2.1 h2.2) Y30 (E10 rfl)) λσ H Q qq=>?_) rfl
 obtain⟨zA,ρ,z,rr,rel,st,e,po⟩:=qq;have e0:p31 k ρ[i]? z=some rr:=e;unfold p31 at e0;split at e0
 ·rename_i p hs;obtain⟨v,hv,a,hz',rfl⟩:=rel i .z hs;subst hz';have st':H a=some (.lst [.int p.1,.bl p.2]):=st.zat;refine⟨_,hv,a,[.int p.1,.bl p.2],(k:Int),?_⟩;split at e0
  ·rename_i hk;subst hk;cases e0;obtain⟨s',e',po⟩:=po;cases e';exact⟨_,rfl,rfl,SqL.of st',rfl,po _ H Ext.refl st i10⟩
  ·split at e0
   ·rename_i hk;subst hk;cases e0;obtain⟨s',e',po⟩:=po;cases e';exact⟨_,rfl,rfl,SqL.of st',rfl,po _ H Ext.refl st (y91 Hd.bl)⟩
   ·cases e0
 ·cases e0
theorem a81(a:Int):∀ (n:Nat) {its:List Ã},its.length=n->(∀ i,i < n->∃ v t,its[i]?=some v/\v=.int (a + (i:Nat)) t)->Vals ((Ú n).map λ(k:Nat)=>V.int (a + k)) its:=by
 intro n its hl h;have:∀ (m:Nat) (l:List Ã) (o:Nat),l.length=m->(∀ i,i < m->∃ v t,l[i]?=some v/\v=.int (a + (o + i:Nat)) t)->Vals ((Ã3 o m 1).map λ(k:Nat)=>V.int (a + k)) l:=by
  intro m
  induction m with
  |zero =>
   intro l o hl _;rw[List.length_eq_zero_iff.mp hl];exact .nil
  |succ m ih =>
   intro l o hl h;cases l with
   |nil=>cases hl
   |cons x r =>
    obtain⟨v,t,e1,e2⟩:=h 0 (Nat.succ_pos m);simp only[É4,È4] at e1;subst e1;rw[Ä4,Ç0];refine .cons ⟨t,by rw[e2];simp⟩ (ih r (o + 1) (by simpa using hl) λi hi=>?_)
    obtain⟨v,t,e1,e2⟩:=h (i + 1) (Nat.succ_lt_succ hi);exact⟨v,t,by simpa using e1,by rw[e2];congr 1;omega⟩
 rw[É3];exact this n its 0 hl λi hi=>by
  obtain⟨v,t,e1,e2⟩:=h i hi;exact⟨v,t,e1,by rw[e2];simp⟩
theorem r01:ð "range"=some (.type "range"):=by decide +kernel
def lrV:List V->Option (Int × Int)
 |[.int j]=>some (0,j)|[.int i,.int j]=>some (i,j)|_=>none
def lrO:Bool->List V->HO
 |true=>HO.tup|false=>HO.lst
def lrT:Bool->String
 |true=>"tuple"|false=>"list"
def y92(b:Bool)(ta:TA):TE:=λσ H Q=>ta σ H λvs H1=>∃ i j:Int,lrV vs=some (i,j)/\-100000 < i/\i < 100000/\-100000 < j/\j < 100000/\∀ l,H1 l=none->Q (.ref l) (upd H1 l (lrO b ((Ú (j - i).toNat).map λ(k:Nat)=>V.int (i + k))))
theorem k72{pins:List (Æ × Obj)}{σ:L2.St}{H1:Hp}{s1:Å}{r:Æ}{i j:Int}{t u v:Tok}{Q:VK}(hc:X.calm=true)(I2:Inv X pins σ H1 s1)(hr:Ô0 s1.heap r i j 1 t u v)(i1:-100000 < i)(i2:i < 100000)(j1:-100000 < j)(j2:j < 100000)
  (q:∀ l,H1 l=none->Q (.ref l) (upd H1 l (.lst ((Ú (j - i).toNat).map λ(k:Nat)=>V.int (i + k))))):Ó (Ü X.prog X.w) X.A (call (.type "list") [.ref r]) (EP X pins σ Q) X.xe s1:=by
 have hz:Â6 i j 1=(((j - i).toNat:Nat):Int):=by rw[rangeSize_one];split <;> omega
 refine call_list_range (n:=(j - i).toNat) (I2.ok.hd hc) hr (small_one ∅ ∅ ∅ ∅) hz ∅ λh' tk acc' c' kp hS hacc=>?_
 have rv:Vals ((Ú (j - i).toNat).map λ(k:Nat)=>V.int (i + k)) acc'.toList:=by
  refine a81 i (j - i).toNat ?_ λi hi=>?_
  ·rw[È9];exact hacc.1
  ·have hlt:i < acc'.size:=by rw[hacc.1];exact hi
   obtain⟨t,e⟩:=hacc.2 i acc'[i] (È0 hlt);exact⟨acc'[i],t,by rw[ü];exact È0 hlt,by rw[e];simp⟩
 have hlen:((Ú (j - i).toNat).map λ(k:Nat)=>V.int (i + k)).length<=sizeLine:=by rw[Ç,ø,Â8];omega
 have hn:=I2.hok.fresh (Ì _);exact⟨.ref _,_,I2.laid (t':=tk) kp (Ì _) (show h00 X.prog X.w _ h' _ (.lst _) from⟨hlen,acc'.toList,c',rv,by rw[Î9];exact hS⟩),rfl,q _ hn⟩
theorem T71{pins:List (Æ × Obj)}{σ:L2.St}{H1:Hp}{s1:Å}{r:Æ}{i j:Int}{t u v:Tok}{Q:VK}(hc:X.calm=true)(I2:Inv X pins σ H1 s1)(hr:Ô0 s1.heap r i j 1 t u v)(i1:-100000 < i)(i2:i < 100000)(j1:-100000 < j)(j2:j < 100000)
  (q:∀ l,H1 l=none->Q (.ref l) (upd H1 l (.tup ((Ú (j - i).toNat).map λ(k:Nat)=>V.int (i + k))))):Ó (Ü X.prog X.w) X.A (call (.type "tuple") [.ref r]) (EP X pins σ Q) X.xe s1:=by
 have hz:Â6 i j 1=(((j - i).toNat:Nat):Int):=by rw[rangeSize_one];split <;> omega
 refine HT.tuple_range (n:=(j - i).toNat) (I2.ok.hd hc) hr (small_one ∅ ∅ ∅ ∅) hz ∅ λh' tk acc' kp hsz hacc=>?_
 have rv:Vals ((Ú (j - i).toNat).map λ(k:Nat)=>V.int (i + k)) acc'.toList:=by
  refine a81 i (j - i).toNat ?_ λi hi=>?_
  ·rw[È9];exact hacc.1
  ·have hlt:i < acc'.size:=by rw[hacc.1];exact hi
   obtain⟨t,e⟩:=hacc.2 i acc'[i] (È0 hlt);exact⟨acc'[i],t,by rw[ü];exact È0 hlt,by rw[e];simp⟩
 have hlen:((Ú (j - i).toNat).map λ(k:Nat)=>V.int (i + k)).length<=sizeLine:=by rw[Ç,ø,Â8];omega
 exact⟨.ref _,_,I2.laid (t':=tk) (λb o e=>Ä _ (kp b o e)) hsz (show h00 X.prog X.w _ _ _ (.tup _) from⟨hlen,acc'.toList,rv,⟨_,Ï _ rfl,rfl,0,by rw[Î9]⟩⟩),rfl,q _ (I2.hok.fresh hsz)⟩
theorem r11(b:Bool){pins:List (Æ × Obj)}{σ:L2.St}{H1:Hp}{s1:Å}{r:Æ}{i j:Int}{t u v:Tok}{Q:VK}(hc:X.calm=true)(I2:Inv X pins σ H1 s1)(hr:Ô0 s1.heap r i j 1 t u v)(i1:-100000 < i)(i2:i < 100000)(j1:-100000 < j)(j2:j < 100000)
  (q:∀ l,H1 l=none->Q (.ref l) (upd H1 l (lrO b ((Ú (j - i).toNat).map λ(k:Nat)=>V.int (i + k))))):Ó (Ü X.prog X.w) X.A (call (.type (lrT b)) [.ref r]) (EP X pins σ Q) X.xe s1:=by
 cases b with
 |true=>exact T71 hc I2 hr i1 i2 j1 j2 q|false=>exact k72 hc I2 hr i1 i2 j1 j2 q
theorem z02(b:Bool):ð (lrN b)=some (.type (lrT b)):=by
 cases b with
 |true=>exact J60|false=>exact V20
theorem r21(b:Bool){e:Ñ}{l:List Ñ}{ta:TA}{p p2 pos pos2:Pos}(hc:X.calm=true)(hg:Gl X (lrN b))(hm:X.mg (lrN b)=none)(hg2:Gl X "range")(hm2:X.mg "range"=none)(ha:PA X (e::l) ta)(hs:noStar e=true)(hs2:l.all noStar=true) :
  PE X (.Call (.Name (lrN b) p) [.Call (.Name "range" p2) (e::l) [] pos2] [] pos) (y92 b ta):=by
 intro pins s σ H Q I h;refine Call_ (w10 I hg hm (z02 b) (Á4 (Õ6 ?_) rfl rfl) (by cases b <;> decide) (by cases b <;> decide))
 refine Call_ (w10 I hg2 hm2 r01 (Á4 (thn (ha pos2 pins s σ H _ I h) λus s1 ⟨vs,H1,I1,r1,q1⟩=>?_) (c90 hs l X.env) (s20 X.env pos2 hs2)));obtain⟨i,j,hv,i1,i2,j1,j2,q⟩:=q1
 match vs,hv with
 |[.int _],hv =>
  cases hv;obtain⟨u,rfl,r⟩:=vals1 r1;obtain⟨t,rfl⟩:=r;exact call_range_1 (Ï5 (r11 b hc (I1.kept λb o e=>Ä _ e) (Ô0.new ..) i1 i2 j1 j2 q))
 |[.int _,.int _],hv =>
  cases hv;obtain⟨u,u',rfl,r,r'⟩:=vals2 r1;obtain⟨t,rfl⟩:=r;obtain⟨t',rfl⟩:=r';exact call_range_2 (Ï5 (r11 b hc (I1.kept λb o e=>Ä _ e) (Ô0.new ..) i1 i2 j1 j2 q))
theorem F61:∀ {ds xs:List D},lrD ds=some xs->∃ i j:Int,((ds=[.int j]/\i=0)∨ds=[.int i,.int j])/\-100000 < i/\i < 100000/\-100000 < j/\j < 100000/\xs=(Ú (j - i).toNat).map λ(k:Nat)=>D.int (i + k)
 |[],_,h=>by cases h
 |[x],xs,h=>by
  cases x with
  |int j =>
   obtain⟨hj,h⟩:=g30 h;have hj:=A10.mp hj;exact⟨0,j,.inl ⟨rfl,rfl⟩,by omega,by omega,hj.1,hj.2,by cases h;simp⟩
  |_=>cases h
 |[x,y],xs,h=>by
  cases x with
  |int i =>
   cases y with
   |int j =>
    obtain⟨hj,h⟩:=g30 h;have h1:=A10.mp hj.1;have h2:=A10.mp hj.2;exact⟨i,j,.inr rfl,h1.1,h1.2,h2.1,h2.2,by cases h;rfl⟩
   |_=>cases h
  |_=>cases h
 |x::y::_::_,_,h=>by
  cases x with
  |int i=>cases y <;> cases h
  |_=>cases h
theorem k82(x:XI lm X G E N sc){b:Bool}{as:Ex}{a:Ñ}{l:List Ñ}{p p2 pos pos2:Pos}(h1:glob sc (lrN b)=true)(h2:glob sc "range"=true)(hL:isL as=true)(g:Good X G E as (a::l)):a90 X G E (.lrng b as) (.Call (.Name (lrN b) p) [.Call (.Name "range" p2) (a::l) [] pos2] [] pos):=by
 obtain⟨k1,_,_⟩:=d80 h1;obtain⟨m1,_,_⟩:=d80 h2;obtain⟨ha,hs⟩:=g.args hL;rw[Å2,Â] at hs;refine b10 (PE.imp (r21 b x.calm (x.glb _ k1) (x.blt _ (by cases b <;> decide)) (x.glb _ m1) (x.blt _ (-0)) ha hs.1 hs.2) λσ H Q q=>?_) rfl
 obtain⟨zA,ρ,z,rr,rel,st,e,po⟩:=q;refine h91 rel st e (e70 po) λl z1 e1 vs H1 x1 st1 rvs=>?_;obtain⟨xs,hx,e2⟩:=M.a20 e1;cases e2;obtain⟨s',e',po⟩:=po;cases e';obtain⟨ds,h3,h4⟩:=Í.mp hx;have hd:=O90 rvs h3;have fin:∀ i j:Int,xs=(Ú (j - i).toNat).map (λ(k:Nat)=>D.int (i + k))->∀ lA,H1 lA=none->Q (.ref lA) (upd H1 lA (lrO b ((Ú (j - i).toNat).map λ(k:Nat)=>V.int (i + k)))):=λi j ex lA hn=>by
  subst ex;have hI:=HdA.ints (K:=X.K) (H:=hz zA H1) ((Ú (j - i).toNat).map λ(k:Nat)=>i + (k:Int));rw[Á7,Á7] at hI;cases b with
  |false=>exact po _ _ (x1.trans (Ext.of (a30.new _ hn))) (st1.same (a30.new _ hn)) ((p70 st1 hI hn).from x1)|true=>exact po _ _ (x1.trans (Ext.of (a30.new _ hn))) (st1.same (a30.new _ hn)) (y91 (Hd.tup ((st1.same (a30.new _ hn)).R31 (SqT.of b20)) (hI.same (j40 (a30.new _ hn)))))
 obtain⟨i,j,hds,j1,j2,j3,j4,ex⟩:=F61 h4;refine⟨i,j,?_,j1,j2,j3,j4,fin i j ex⟩;rcases hds with ⟨rfl,rfl⟩ | rfl
 ·obtain⟨v,rfl,h5⟩:=hd.one;cases h5.j30;rfl
 ·obtain⟨v,w,rfl,h5,h6⟩:=hd.two;cases h5.j30;cases h6.j30;rfl
def tPO(K:Á)(G:Gs)(E:XK)(x:Ex):TO:=λσ H Q=>∃ zA ρ z r,w50 K zA H ρ σ/\d50 zA z H/\ev G.F x ρ z=some r/\(match r with
 |.ok l z'=>∃ o,p21 l=some o/\∀ H',Ext zA H H'->d50 zA z' H'->Q o H'
 |.er c z'=>EPost G zA E c z' H)
theorem k92(hL:isL x=true)(g:Good X G E x e.toList):PO X e (tPO X.K G E x):=by
 cases e with
 |none =>
  cases x with
  |nil =>
   refine λpins s σ H Q I q=>N71 pins s σ H Q I ?_;obtain⟨zA,ρ,z,r,rel,st,e,po⟩:=q;cases e;obtain⟨o,e',po⟩:=po;cases e';exact po H Ext.refl st
  |cons a r=>obtain⟨e,es,h,_⟩:=g;cases h
  |_=>cases hL
 |some e =>
  cases x with
  |nil=>cases (show [e]=[] from g)
  |cons a r =>
   obtain⟨e',es,h,ns,ga,lr,gr⟩:=g;cases h;refine λpins s σ H Q I q=>N81 ga.pe pins s σ H Q I ?_;obtain⟨zA,ρ,z,rr,rel,st,e,po⟩:=q;have her:∀ c z1,rr=.er c z1->EPost G zA E c z1 H:=λc z1 e=>by subst e;exact po
   have rn:r=.nil:=by
    cases r with
    |nil=>rfl|cons b q=>obtain⟨e,es,h,_⟩:=gr;cases h
    |_=>cases lr
   subst rn;refine j50 rel st e her λl z1 e1=>?_;obtain⟨s,hs,e2⟩:=M.a20 e1;cases e2;obtain⟨o,e',po⟩:=po;refine⟨s,A80 hs,λv H1 x1 st1 rv=>?_⟩;cases s with
   |d y =>
    cases y with
    |int i =>
     cases e';exact⟨i,Hd.j30 (show Hd X.K (hz zA H1) (.int i) v from rv),po H1 x1 st1⟩
    |_=>cases e'
   |_=>cases e'
  |_=>cases hL
theorem L42{a lo hi:Ex}{v:Ñ}{l h:Option Ñ}{p pos:Pos}(ga:a90 X G E a v)(hl:isL lo=true)(hh:isL hi=true)(gl:Good X G E lo l.toList)(gh:Good X G E hi h.toList):a90 X G E (.sl a lo hi) (.Subscript v (.Slice l h none p) pos):=by
 refine b10 (PE.imp (A41 K32 ga.pe (k92 hl gl) (k92 hh gh)) λσ H Q q=>?_) rfl;obtain⟨zA,ρ,z,rr,rel,st,e,po⟩:=q;refine j50 rel st e (e70 po) λm z1 e1=>?_;obtain⟨dx,p1,e2⟩:=M.a20 e1;obtain⟨s1,rfl,q1⟩:=e90 p1;refine⟨s1,rfl,λw H1 x1 st1 rv=>?_⟩;rcases M.bind_some e2 with ⟨u,z2,e3,e4⟩ | ⟨c,z2,e3,e4⟩
 ·obtain⟨o,ho,e5⟩:=M.a20 e4;refine⟨zA,ρ,z1,_,rel.mono x1,st1,e3,o,ho,λH2 x2 st2=>?_⟩;rcases M.bind_some e5 with ⟨u',z3,e6,e7⟩ | ⟨c,z3,e6,e7⟩
  ·obtain⟨o',ho',e8⟩:=M.a20 e7;refine⟨zA,ρ,z2,_,(rel.mono x1).mono x2,st2,e6,o',ho',λH3 x3 st3=>?_⟩;obtain⟨s,hs,e9⟩:=M.a20 e8;cases e9;exact⟨zA,z3,dx,s,st3,((rv.pl.mono (x2.trans x3)).d_ q1),hs,e10 po ((x1.trans x2).trans x3) st3⟩
  ·exact⟨zA,ρ,z2,_,(rel.mono x1).mono x2,st2,e6,((e70 po) c z3 e7).mono (x1.trans x2)⟩
 ·exact⟨zA,ρ,z1,_,rel.mono x1,st1,e3,((e70 po) c z2 e4).mono x1⟩
theorem l02:∀ {x:Ex}{es:List Ñ}{z z1:Z}{l:List S},isL x=true->Good X G E x es->ev G.F x ρ z=some (.ok l z1)->l.length=es.length:=by
 intro x
 induction x with
 |nil =>
  intro es z z1 l _ h e;have h:es=[]:=h;subst h;cases e;rfl
 |cons a r _ ih =>
  intro es z z1 l _ h e;obtain⟨e',es',rfl,ns,g,lr,gr⟩:=h;rcases M.bind_some e with ⟨m,z2,e1,e2⟩ | ⟨c,z2,e1,e2⟩
  ·obtain⟨s,hs,e3⟩:=M.a20 e2;rcases M.bind_some e3 with ⟨m',z3,e4,e5⟩ | ⟨c,z3,e4,e5⟩
   ·cases e5;rw[Ô,Ô,ih lr gr e4]
   ·cases e5
  ·cases e2
 |_=>intro es z z1 l h;cases h
theorem s_call(x:XI lm X G E N sc){f:Nat}{as:Ex}{n:Str}{ps:List Str}{e:Ñ}{l:List Ñ}{p pos:Pos}(hf:G.fns[f]?=some (n,ps))(hl:ps.length=l.length + 1)(hg:glob sc n=true)(hL:isL as=true)(g:Good X G E as (e::l)) :
  a90 X G E (.call f as) (.Call (.Name n p) (e::l) [] pos):=by
 obtain⟨k1,k2,k3⟩:=d80 hg;obtain⟨fa,fd,m1,m2,m3,F⟩:=x.gok f n ps hf;obtain⟨ha,hs⟩:=g.args hL;rw[Å2,Â] at hs;refine b10 (PE.imp (N41 F x.room (x.glb n k1) m1 m2 m3 .nil x.pas ha k2 (c90 hs.1 l X.env) (s20 X.env pos hs.2)) λσ H Q q=>?_) rfl;obtain⟨zA,ρ,z,rr,rel,st,e,po⟩:=q;have e0:M.bind (ev G.F as ρ) (λl=>M.bind (G.F false f (l.map plS)) λs=>M.ret [s]) z=some rr:=e;rcases M.bind_some e0 with ⟨m,z1,e1,e2⟩ | ⟨c,z1,e1,e2⟩
 ·refine⟨zA,ρ,z,_,rel,st,e1,λvs H1 x1 st1 rvs=>?_⟩;have hv:vs.length=ps.length:=by rw[← rvs.length,l02 hL g e1,hl];rfl
  show spF X.K G f ps.length (vs++[]) H1 Q E;rw[Á9];refine⟨hv,zA,z1,m.map plS,?_⟩;have ra:RvA X.K zA H1 (m.map plS) vs:=RvA.plS (Ä3.Z21 rvs λ_ _ q=>q.pl);rcases M.bind_some e2 with ⟨s,z2,e3,e4⟩ | ⟨c,z2,e3,e4⟩
  ·cases e4;refine⟨_,ra,st1,e3,λv H2 x2 st2 rv=>?_⟩;obtain⟨s',e',po⟩:=po;cases e';exact po v H2 (x1.trans x2) st2 (rv.from x1)
  ·exact⟨_,ra,st1,e3,((e70 po) c z2 e4).mono x1⟩
 ·exact⟨zA,ρ,z,_,rel,st,e1,(e70 po) c z1 e2⟩
def q92:Pat->Nat
 |.nil=>0|.cons _ r=>q92 r + 1|_=>0
mutual
noncomputable def gP(K:Á):Pat->TG
 |.v i=>S50 i|.tup ps=>C62 K (q92 ps) (gL K ps)|.nil=>λ_ _ _ _=>False|.cons _ _=>λ_ _ _ _=>False
noncomputable def gL(K:Á):Pat->TGs
 |.nil=>C52|.cons p r=>b82 (gP K p) (gL K r)|.v _=>λ_ _ _ _=>False|.tup _=>λ_ _ _ _=>False
end
end
end Q
namespace Q
open PySem L2 PySem.Spec PyProof.Rows
variable [TB:Tb]
theorem K81(h:noStar e=true)(es:List Ñ)(env:Æ8):È3 (e::es) env=(false,Ö5 e env)::È3 es env:=by
 cases e <;> first | rfl | cases h
structure F71(X:Cx)(N:List Str)(loc:Str->Bool):Prop where
 hN:X.N=N
 nd:N.Nodup
 lc:∀ x,loc x=true->Loc X.env.scope x
 fn:∀ x,loc x=true->(X.fn x=true∨X.env.scope.names.lookup x=some .local)
 calm:X.calm=true
theorem E20:∀ {es:List Ñ} (env:Æ8),es.all noStar=true->(È3 es env).length=es.length/\(È3 es env).findIdx? (·.1)=none
 |[],_,_=>⟨rfl,rfl⟩
 |e::es,env,h=>by
  rw[Å2,Â] at h;obtain⟨h1,h2⟩:=E20 env h.2;rw[K81 h.1];refine⟨by rw[Ô,Ô,h1],?_⟩
  rw[List.findIdx?_cons,h2];rfl
theorem a91:∀ {r:Pat}{es:List Ñ},i01 N loc r es=true->es.length=q92 r/\es.all noStar=true
 |.nil,es,h=>by
  unfold i01 at h;have:es=[]:=Ë6.mp h;subst this;exact⟨rfl,rfl⟩
 |.cons p r,es,h=>by
  unfold i01 at h;cases es with
  |nil=>cases h
  |cons e es =>
   rw[Â,Â] at h;obtain⟨h1,h2⟩:=a91 (r:=r) h.2;exact⟨by rw[Ô,h1];rfl,by rw[Å2,h.1.1,h2];rfl⟩
 |.v _,_,h=>by unfold i01 at h;cases h
 |.tup _,_,h=>by unfold i01 at h;cases h
mutual
theorem r31(L:F71 X N loc):∀ {p:Pat}{e:Ñ},i80 N loc p e=true->PG X e (gP X.K p)
 |.v i,e,h=>by
  unfold i80 at h;cases e with
  |Name x pos =>
   rw[Â,beq_iff_eq] at h;unfold gP;exact k41 (by rw[L.hN];exact L.nd) (by rw[L.hN];exact h.1) (L.lc x h.2) (L.fn x h.2)
  |_=>cases h
 |.tup ps,e,h=>by
  unfold i80 at h;cases e with
  |Tuple es k pos =>
   obtain⟨h1,h2⟩:=a91 h;obtain⟨h3,h4⟩:=E20 X.env h2;unfold gP;exact b92 L.calm (K91 L h) (by rw[h3,h1]) h4
  |_=>cases h
 |.nil,e,h=>by unfold i80 at h;cases h
 |.cons _ _,e,h=>by unfold i80 at h;cases h
theorem K91(L:F71 X N loc):∀ {r:Pat}{es:List Ñ},i01 N loc r es=true->PGs X es (gL X.K r)
 |.nil,es,h=>by
  unfold i01 at h;have:es=[]:=Ë6.mp h;subst this;unfold gL;exact N11
 |.cons p r,es,h=>by
  unfold i01 at h;cases es with
  |nil=>cases h
  |cons e es =>
   rw[Â,Â] at h;unfold gL;exact z71 (r31 L h.1.2) (K91 L h.2) (by rw[K81 h.1.1];rfl)
 |.v _,_,h=>by unfold i01 at h;cases h
 |.tup _,_,h=>by unfold i01 at h;cases h
end
section
variable {K:Á}{zA:Option Æ}{H:Hp}
theorem w50.set{ρ:Env}{σ:L2.St}{i:Nat}{s:S}{v:V}(h:w50 K zA H ρ σ)(hl:ρ.length=σ.length)(r:RvP K zA H s v):w50 K zA H (ρ.set i (some s)) (σ.set i (some v)):=by
 intro j t e;by_cases hj:j=i
 ·subst hj;have hlt:j < ρ.length:=by
   have:=(Û.mp e).1;simpa using this
  rw[ñ hlt] at e;cases e;exact⟨v,ñ (by rw[← hl];exact hlt),r⟩
 ·rw[ê (Á0 hj)] at e;obtain⟨w,h1,h2⟩:=h j t e;exact⟨w,by rw[ê (Á0 hj)];exact h1,h2⟩
theorem A90:∀ {r:Pat}{l:List D}{ρ ρ':Env},bindL r l ρ=some ρ'->l.length=q92 r
 |.nil,l,ρ,ρ',e=>by
  unfold bindL at e;cases l with
  |nil=>rfl|cons x l=>cases e
 |.cons p r,l,ρ,ρ',e=>by
  unfold bindL at e;cases l with
  |nil=>cases e
  |cons x l =>
   obtain⟨ρ1,e1,e2⟩:=Í.mp e;rw[Ô,A90 e2];rfl
 |.v _,_,_,_,e=>by unfold bindL at e;cases e
 |.tup _,_,_,_,e=>by unfold bindL at e;cases e
mutual
theorem r41:∀ {p:Pat}{d:D}{ρ ρ':Env},f20 p d ρ=some ρ'->∀ {σ:L2.St}{v:V}{R:L2.St->Hp->Prop},w50 K zA H ρ σ->ρ.length=σ.length->Hd K (hz zA H) d v ->
  (∀ σ',w50 K zA H ρ' σ'->ρ'.length=σ'.length->R σ' H)->gP K p v σ H R
 |.v i,d,ρ,ρ',e,σ,v,R,rel,hl,hd,k=>by
  unfold f20 at e;cases e;unfold gP;exact k _ (rel.set hl (show RvP K zA H (.d d) v from hd)) (by rw[Ã8,Ã8,hl])
 |.tup ps,d,ρ,ρ',e,σ,v,R,rel,hl,hd,k=>by
  unfold f20 at e;cases d with
  |tup l =>
   obtain⟨a,xs,rfl,h1,h2⟩:=hd.y20;unfold gP;exact⟨a,xs,rfl,(a10 zA H).sqT h1,by rw[h2.length];exact A90 e,b01 e rel hl h2 k⟩
  |_=>cases e
 |.nil,_,_,_,e,_,_,_,_,_,_,_=>by unfold f20 at e;cases e
 |.cons _ _,_,_,_,e,_,_,_,_,_,_,_=>by unfold f20 at e;cases e
theorem b01:∀ {r:Pat}{l:List D}{ρ ρ':Env},bindL r l ρ=some ρ'->∀ {σ:L2.St}{vs:List V}{R:L2.St->Hp->Prop},w50 K zA H ρ σ->ρ.length=σ.length->HdA K (hz zA H) l vs ->
  (∀ σ',w50 K zA H ρ' σ'->ρ'.length=σ'.length->R σ' H)->gL K r vs σ H R
 |.nil,l,ρ,ρ',e,σ,vs,R,rel,hl,hd,k=>by
  unfold bindL at e;cases l with
  |nil =>
   cases e;unfold gL;exact⟨hd.e30,k σ rel hl⟩
  |cons x l=>cases e
 |.cons p r,l,ρ,ρ',e,σ,vs,R,rel,hl,hd,k=>by
  unfold bindL at e;cases l with
  |nil=>cases e
  |cons x l =>
   obtain⟨ρ1,e1,e2⟩:=Í.mp e;obtain⟨v,ws,rfl,h1,h2⟩:=hd.b90;unfold gL;exact⟨v,ws,rfl,r41 e1 rel hl h1 λσ' r' l'=>b01 e2 r' l' h2 k⟩
 |.v _,_,_,_,e,_,_,_,_,_,_,_=>by unfold bindL at e;cases e
 |.tup _,_,_,_,e,_,_,_,_,_,_,_=>by unfold bindL at e;cases e
end
end
end Q
namespace Q
open PySem L2 PySem.Spec PyProof.Rows
variable [TB:Tb]
structure z12(K:PySem.W.Frag)(zA:Option Addr)(J:L2.It)(xs:List D)(H1:Hp):Prop where
 go:∀ i H,Ext zA H1 H->i < xs.length->J.go i H
 yld:∀ i H x H' z d,Ext zA H1 H->d50 zA z H->J.yld i H x H'->xs[i]?=some d->a30 H H'/\Hd K (hz zA H') d x
 stop:∀ H,Ext zA H1 H->J.stop xs.length H
structure ItB(K:PySem.W.Frag)(J:L2.It)(xs:List D)(B:Hp):Prop where
 go:∀ i H,a30 B H->i < xs.length->J.go i H
 yld:∀ i H x H' zA z d,a30 B (hz zA H)->d50 zA z H->J.yld i H x H'->xs[i]?=some d->a30 H H'/\∀ C,a30 B C->(∀ a ys,SqT K (hz zA H') a ys->SqT K C a ys)->Hd K C d x
 stop:∀ H,a30 B H->J.stop xs.length H
section
variable {K:Á}{B:Hp}
theorem ItB.ok(h:ItB K J xs (hz zA H1)):z12 K zA J xs H1 :=
 ⟨λi H x=>h.go i H (a30.trans x (a10 zA H)),λi H x H' z d e st y k=>let ⟨s,f⟩:=h.yld i H x H' zA z d e st y k;⟨s,f _ (a30.trans e (j40 s)) λ_ _ q=>q⟩,λH x=>h.stop H (a30.trans x (a10 zA H))⟩
theorem b11(h:p50 K B a ys)(r:HdA K B xs ys):ItB K (Itl K a) xs B where
 go:=λi H x hi=>⟨ys,ys[i]'(by rw[r.length];exact hi),(h.same x).sq,by simp⟩
 yld:=λi H v H' zA z d x st y e=>by
  obtain⟨rfl,y⟩:=y;have y1:=y ys ((h.same x).same (a10 zA _)).sq;obtain⟨w,e1,e2⟩:=r.get e;rw[y1] at e1;cases e1;exact⟨a30.refl _,λC c _=>e2.same c⟩
 stop:=λH x=>⟨ys,(h.same x).sq,by rw[r.length];exact Ì _⟩
theorem r51(h:SqT K B a ys)(r:HdA K B xs ys):ItB K (Itt K a) xs B where
 go:=λi H x hi=>⟨ys,ys[i]'(by rw[r.length];exact hi),a30.sqT x h,by simp⟩
 yld:=λi H v H' zA z d x st y e=>by
  obtain⟨rfl,y⟩:=y;have y1:=y ys ((a10 zA _).sqT (a30.sqT x h));obtain⟨w,e1,e2⟩:=r.get e;rw[y1] at e1;cases e1;exact⟨a30.refl _,λC c _=>e2.same c⟩
 stop:=λH x=>⟨ys,a30.sqT x h,by rw[r.length];exact Ì _⟩
theorem r61(lo:Int)(n:Nat):ItB K (Itr lo n) ((Ú n).map λ(k:Nat)=>D.int (lo + k)) B where
 go:=λi H x hi=>by show i < n;simpa using hi
 yld:=λi H v H' zA z d x st y e=>by
  obtain⟨rfl,rfl⟩:=y;rw[à] at e;obtain⟨k,e1,rfl⟩:=È.mp e;obtain⟨h1,h2⟩:=Û.mp e1;rw[List.getElem_range] at h2;subst h2;exact⟨a30.refl _,λ_ _ _=>Hd.int⟩
 stop:=λH x=>by show n<=_;simp
end
section
variable {K:Á}{zA:Option Æ}{H1:Hp}
theorem zip_get:∀ {a b:List D}{i:Nat}{d:D},(u40 a b)[i]?=some d->∃ x y,a[i]?=some x/\b[i]?=some y/\d=.tup [x,y]
 |[],_,_,_,e=>by simp[u40] at e|_::_,[],_,_,e=>by simp[u40] at e|x::r,y::q,0,d,e=>by simp[u40] at e;exact⟨x,y,rfl,rfl,e.symm⟩
 |x::r,y::q,i + 1,d,e=>by
  obtain⟨u,v,h1,h2,h3⟩:=zip_get (a:=r) (b:=q) (i:=i) (by simpa [u40] using e)
  exact⟨u,v,by simpa using h1,by simpa using h2,h3⟩
theorem V30:∀ (a b:List D),(u40 a b).length=min a.length b.length
 |[],_=>by simp[u40]|_::_,[]=>by simp[u40]|x::r,y::q=>by simp only[u40,Ô,V30 r q];omega
theorem r71(h:∀ H,a30 B H->SqB bb K H a us)(r:HdA K B xs us)(h':∀ H,a30 B H->SqB bb K H b ws)(r':HdA K B ys ws):ItB K (Itz bb K a b) (u40 xs ys) B where
 go:=λi H x hi=>by
  rw[V30] at hi;exact⟨us,ws,us[i]'(by rw[r.length];omega),ws[i]'(by rw[r'.length];omega),h H x,h' H x,by simp,by simp⟩
 yld:=λi H v H' zA z d x st y e=>by
  obtain⟨T,rfl,hT,y⟩:=y;obtain⟨d1,d2,e1,e2,rfl⟩:=zip_get e;obtain⟨w1,f1,g1⟩:=r.get e1;obtain⟨w2,f2,g2⟩:=r'.get e2;have y1:=y us ws w1 w2 (h H (a30.trans x (a10 zA H))) (h' H (a30.trans x (a10 zA H))) f1 f2;subst y1;have sm:a30 H (upd H T (.tup [w1,w2])):=a30.new _ hT;exact⟨sm,λC c t=>Hd.tup (t _ _ ((st.same sm).R31 (SqT.of b20))) (.cons (g1.same c) (.cons (g2.same c) .nil))⟩
 stop:=λH x=>⟨us,ws,h H x,h' H x,by rw[V30,r.length,r'.length];omega⟩
end
def PX(P:D->Prop):D->Prop
 |.tup l=>∀ y∈l,P y|.lst l=>∀ y∈l,P y|_=>True
def ItX(K:Á)(zA:Option Æ)(H H':Hp)(l:List S)(J:L2.It)(xs:List D):Prop :=
 ∀ (P:D->Prop) (B:Hp),a30 B (hz zA H')->(∀ a ys,SqT K (hz zA H') a ys->SqT K B a ys)->(∀ d v,P d->Hd K (hz zA H') d v->Hd K B d v)->(∀ ds,plA l=some ds->∀ d∈ds,PX P d) ->
  (∀ a ys,p50 K (hz zA H') a ys->((H a=none/\H' a=some (.lst ys))∨j51 l=true)->p50 K B a ys)->ItB K J xs B
theorem HdA.move{K:Á}{H B:Hp}{P:D->Prop}(mv:∀ d v,P d->Hd K H d v->Hd K B d v):∀ {ds:List D}{vs:List V},(∀ y∈ds,P y)->HdA K H ds vs->HdA K B ds vs
 |[],_,_,h=>by rw[h.e30];exact .nil
 |d::ds,_,p,h=>by
  obtain⟨x,r,rfl,h1,h2⟩:=h.b90;exact .cons (mv d x (p d É) h1) (HdA.move mv (λy hy=>p y (Ê _ hy)) h2)
theorem ItX.ok{K:Á}{zA:Option Æ}{H H':Hp}{l:List S}{J:L2.It}{xs:List D}(h:ItX K zA H H' l J xs):z12 K zA J xs H':=by
 refine(h (λ_=>True) (hz zA H') (a30.refl _) (λ_ _ q=>q) (λ_ _ _ q=>q) (λds _ d _=>?_) λ_ _ q _=>q).ok;cases d <;> first | trivial | exact λ_ _=>trivial
def tIt(K:Á)(G:Gs)(E:XK)(it:It)(src:Ex):TI:=λσ H R=>∃ zA ρ z r,w50 K zA H ρ σ/\d50 zA z H/\ev G.F src ρ z=some r/\(match r with
 |.ok l z'=>∃ xs,(plA l).bind (itD it)=some xs/\∀ J H',Ext zA H H'->d50 zA z' H'->ItX K zA H H' l J xs->R J H'
 |.er c z'=>EPost G zA E c z' H)
section
variable {lm:Bool}{X:Cx}{G:Gs}{E:XK}{N:List Str}{sc:ú}
theorem l12{zA:Option Æ}{H:Hp}{it:It}{P:L2.It->Hp->Prop}{r:R (List S)}(po:(match r with | .ok l z'=>∃ xs,(plA l).bind (itD it)=some xs/\∀ J H',Ext zA H H'->d50 zA z' H'->ItX X.K zA H H' l J xs->P J H' | .er c z'=>EPost G zA E c z' H)):∀ c z1,r=.er c z1->EPost G zA E c z1 H:=λc z1 e=>by subst e;exact po
theorem r81{s:S}{ds:List D}(h:plA [s]=some ds):∃ d,ds=[d]/\plD s=some d:=by
 cases s with
 |d x=>cases h;exact⟨x,rfl,rfl⟩
 |fr xs=>cases h;exact⟨_,rfl,rfl⟩
 |_=>cases h
theorem L01{tg e:Ñ}{a:Ex}(g:a90 X G E a e):PI X tg e (tIt X.K G E .seq (.cons a .nil)):=by
 intro pins s σ H R I q;obtain⟨zA,ρ,z,rr,rel,st,ee,po⟩:=q;have e0:M.bind (ev G.F a ρ) (λx=>M.bind (M.of (one x)) λs=>M.bind (ev G.F .nil ρ) λy=>M.ret (s::y)) z=some rr:=ee;rcases M.bind_some e0 with ⟨m,z1,e1,e2⟩ | ⟨c,z1,e1,e2⟩
 ·obtain⟨t,ht,e3⟩:=M.a20 e2;cases e3;have hm:=A80 ht;subst hm;obtain⟨xs,hx,po⟩:=po;obtain⟨ds,h1,h2⟩:=Í.mp hx;obtain⟨d,rfl,h3⟩:=r81 h1;cases d with
  |tup l =>
   cases h2;refine J21 g.pe pins s σ H R I ⟨zA,ρ,z,_,rel,st,e1,t,rfl,λv H1 x1 st1 rv=>?_⟩;obtain⟨b,ys,rfl,k1,k2⟩:=(rv.pl.d_ h3).y20;exact⟨b,rfl,⟨ys,(a10 zA H1).sqT k1⟩,po _ H1 x1 st1 λP B sub tup mv pa sf=>r51 (tup _ _ k1) (HdA.move mv (show ∀ y∈xs,P y from pa _ h1 _ É) k2)⟩
  |lst l =>
   cases h2;refine S60 g.pe pins s σ H R I ⟨zA,ρ,z,_,rel,st,e1,t,rfl,λv H1 x1 st1 rv=>?_⟩;have fin:∀ {b:Æ}{ys:List V},p50 X.K (hz zA H1) b ys->HdA X.K (hz zA H1) xs ys->((H b=none/\H1 b=some (.lst ys))∨j51 [t]=true)->∃ a,V.ref b=.ref a/\(∃ xs,SqL X.K H1 a xs)/\R (Itl X.K a) H1:=λ{b ys} k1 k2 k5=>by
    exact⟨b,rfl,⟨ys,(k1.same (a10 zA H1)).sq⟩,po _ H1 x1 st1 λP B sub tup mv pa sf=>b11 (sf _ _ k1 k5) (HdA.move mv (show ∀ y∈xs,P y from pa _ h1 _ É) k2)⟩
   cases t with
   |d x =>
    cases h3;obtain⟨b,ys,rfl,k1,k2⟩:=Hd.a01 (show Hd X.K (hz zA H1) (.lst xs) v from rv);exact fin k1 k2 (.inr rfl)
   |fr x =>
    cases h3;obtain⟨b,ys,rfl,k0,k1,k2,k3⟩:=rv;exact fin (p50.of (d20 k2 k1)) (k3.same (f90 b _)) (.inl ⟨k0,k2⟩)
   |_=>cases h3
  |_=>cases h2
 ·exact S60 g.pe pins s σ H R I ⟨zA,ρ,z,_,rel,st,e1,(l12 po) c z1 e2⟩
theorem V40{l:List S}{it:It}{xs:List D}(h:(plA l).bind (itD it)=some xs):∃ ds,plA l=some ds/\itD it ds=some xs:=Í.mp h
theorem r91(x:XI lm X G E N sc){tg a:Ñ}{as:Ex}{n:Str}{p pos:Pos}(hn:n="range")(hg:glob sc n=true)(hL:isL as=true)(g:Good X G E as [a]):PI X tg (.Call (.Name n p) [a] [] pos) (tIt X.K G E .rng1 as):=by
 subst hn;obtain⟨k1,k2,k3⟩:=d80 hg;obtain⟨ha,hs⟩:=g.args hL;rw[Å2,Â] at hs;intro pins s σ H R I q;refine L70 (x.glb _ k1) (x.blt _ (-0)) ha (c90 hs.1 [] X.env) pins s σ H R I ?_
 obtain⟨zA,ρ,z,rr,rel,st,ee,po⟩:=q;refine⟨zA,ρ,z,rr,rel,st,ee,?_⟩;cases rr with
 |er c z1=>exact po
 |ok l z1 =>
  obtain⟨xs,hx,po⟩:=po;intro vs H1 x1 st1 rvs;obtain⟨ds,h1,h2⟩:=V40 hx;have hd:=O90 rvs h1
  match ds,h2 with
  |[.int j],h2 =>
   obtain⟨hj,h2⟩:=g30 h2;have hj:=A10.mp hj;cases h2;obtain⟨v,rfl,h3⟩:=hd.one;cases h3.j30;refine⟨j,rfl,by omega,by omega,po _ H1 x1 st1 λP B sub tup mv pa sf=>?_⟩
   have:=r61 (K:=X.K) (B:=B) 0 j.toNat;simpa using this
theorem s01(x:XI lm X G E N sc){tg a b:Ñ}{as:Ex}{n:Str}{p pos:Pos}(hn:n="range")(hg:glob sc n=true)(hL:isL as=true)(g:Good X G E as [a,b]):PI X tg (.Call (.Name n p) [a,b] [] pos) (tIt X.K G E .rng2 as):=by
 subst hn;obtain⟨k1,k2,k3⟩:=d80 hg;obtain⟨ha,hs⟩:=g.args hL;rw[Å2,Å2,Â,Â] at hs;intro pins s σ H R I q;refine k61 (x.glb _ k1) (x.blt _ (-0)) ha (by rw[c90 hs.1,c90 hs.2.1];rfl) (c90 hs.2.1 [] X.env) pins s σ H R I ?_
 obtain⟨zA,ρ,z,rr,rel,st,ee,po⟩:=q;refine⟨zA,ρ,z,rr,rel,st,ee,?_⟩;cases rr with
 |er c z1=>exact po
 |ok l z1 =>
  obtain⟨xs,hx,po⟩:=po;intro vs H1 x1 st1 rvs;obtain⟨ds,h1,h2⟩:=V40 hx;have hd:=O90 rvs h1
  match ds,h2 with
  |[.int i,.int j],h2 =>
   obtain⟨hj,h2⟩:=g30 h2;have hi:=A10.mp hj.1;have hj:=A10.mp hj.2;cases h2;obtain⟨v,w,rfl,h3,h4⟩:=hd.two;cases h3.j30;cases h4.j30;exact⟨i,j,rfl,by omega,po _ H1 x1 st1 λP B sub tup mv pa sf=>r61 i (j - i).toNat⟩
theorem s11{s:S}{r:List S}{ds:List D}(h:plA (s::r)=some ds):∃ x q,ds=x::q/\plD s=some x/\plA r=some q:=by
 cases s with
 |d y =>
  obtain⟨q,e,rfl⟩:=È.mp h;exact⟨y,q,rfl,rfl,e⟩
 |fr y =>
  obtain⟨q,e,rfl⟩:=È.mp h;exact⟨_,q,rfl,rfl,e⟩
 |_=>cases h
theorem T81(h:plA l=some [x,y]):∃ s t,l=[s,t]/\plD s=some x/\plD t=some y:=by
 cases l with
 |nil=>cases h
 |cons s r =>
  obtain⟨_,_,e,h1,h2⟩:=s11 h;cases e;cases r with
  |nil=>cases h2
  |cons t r =>
   obtain⟨_,_,e,h3,h4⟩:=s11 h2;cases e;cases r with
   |nil=>exact⟨s,t,rfl,h1,h3⟩
   |cons u r =>
    obtain⟨_,_,e,_⟩:=s11 h4;cases e
theorem F81{s t:S}(h:j51 [s]=true):j51 [s,t]=true:=by
 match s,h with
 |.d (.lst _),_=>rfl
theorem F91{s t:S}(h:j51 [t]=true):j51 [s,t]=true:=by
 match s with
 |.d (.lst _)=>rfl|.d .non | .d (.bl _) | .d (.int _) | .d (.str _) | .d (.tup _) | .d .dct | .fr _ | .z=>exact h|.ks _=>exact h
theorem s21{K:Á}{zA:Option Æ}{H H1:Hp}{t:S}{v:V}{a:List D}(rv:RvS K zA H H1 t v)(h:plD t=some (.lst a)):∃ b ys,v=.ref b/\p50 K (hz zA H1) b ys/\HdA K (hz zA H1) a ys/\((H b=none/\H1 b=some (.lst ys))∨j51 [t]=true):=by
 cases t with
 |d x =>
  cases h;obtain⟨b,ys,rfl,k1,k2⟩:=Hd.a01 (show Hd K (hz zA H1) (.lst a) _ from rv);exact⟨b,ys,rfl,k1,k2,.inr rfl⟩
 |fr x =>
  cases h;obtain⟨b,ys,rfl,k0,k1,k2,k3⟩:=rv;exact⟨b,ys,rfl,p50.of (d20 k2 k1),k3.same (f90 b _),.inl ⟨k0,k2⟩⟩
 |_=>cases h
theorem s31(x:XI lm X G E N sc){tg a b:Ñ}{as:Ex}{n:Str}{p pos:Pos}(ht:s40 tg=true)(hn:n="zip")(hg:glob sc n=true)(hL:isL as=true)(g:Good X G E as [a,b]):PI X tg (.Call (.Name n p) [a,b] [] pos) (tIt X.K G E .zip as):=by
 subst hn;obtain⟨k1,k2,k3⟩:=d80 hg;obtain⟨ha,hs⟩:=g.args hL;rw[Å2,Å2,Â,Â] at hs;cases tg with
 |Tuple es ek ep =>
  intro pins s σ H R I q;refine d82 (x.glb _ k1) (x.blt _ (-0)) ha (by rw[c90 hs.1,c90 hs.2.1];rfl) (c90 hs.2.1 [] X.env) pins s σ H R I ?_
  obtain⟨zA,ρ,z,rr,rel,st,ee,po⟩:=q;refine⟨zA,ρ,z,rr,rel,st,ee,?_⟩;cases rr with
  |er c z1=>exact po
  |ok l z1 =>
   obtain⟨xs,hx,po⟩:=po;intro vs H1 x1 st1 rvs;obtain⟨ds,h1,h2⟩:=V40 hx;have hd:=O90 rvs h1
   match ds,h2 with
   |[.tup a,.tup b],h2 =>
    cases h2;obtain⟨v,w,rfl,h3,h4⟩:=hd.two;obtain⟨p1,us,rfl,m1,m2⟩:=h3.y20;obtain⟨p2,ws,rfl,m3,m4⟩:=h4.y20;exact⟨false,p1,p2,rfl,⟨us,(a10 zA H1).sqT m1⟩,⟨ws,(a10 zA H1).sqT m3⟩,po _ H1 x1 st1 λP B sub tup mv pa sf=>r71 (λ_ x=>a30.sqT x (tup _ _ m1)) (HdA.move mv (show ∀ y∈a,P y from pa _ h1 _ É) m2) (λ_ x=>a30.sqT x (tup _ _ m3)) (HdA.move mv (show ∀ y∈b,P y from pa _ h1 _ (Ê _ É)) m4)⟩
   |[.lst a,.lst b],h2 =>
    cases h2;obtain⟨t1,t2,rfl,e1,e2⟩:=T81 h1;cases rvs with
    |cons rv1 rn =>
     cases rn with
     |cons rv2 rn =>
      cases rn;obtain⟨p1,us,rfl,m1,m2,m3⟩:=s21 rv1 e1;obtain⟨p2,ws,rfl,m4,m5,m6⟩:=s21 rv2 e2;refine⟨true,p1,p2,rfl,⟨us,(m1.same (a10 zA H1)).sq⟩,⟨ws,(m4.same (a10 zA H1)).sq⟩,po _ H1 x1 st1 λP B sub tup mv pa sf=>r71 (λ_ x=>((sf _ _ m1 (m3.imp id λq=>?_)).same x).sq) (HdA.move mv (show ∀ y∈a,P y from pa _ h1 _ É) m2) (λ_ x=>((sf _ _ m4 (m6.imp id λq=>?_)).same x).sq) (HdA.move mv (show ∀ y∈b,P y from pa _ h1 _ (Ê _ É)) m5)⟩
      ·exact F81 q
      ·exact F91 q
 |_=>cases ht
abbrev EF:XK:=λ_ _ _=>False
def ttC(K:Á)(G:Gs):Ex->TT
 |.nil=>A81|.cons c _=>tT K G EF c|_=>λ_ _ _=>False
theorem i11(h:turns f (x::r) z=some (.ok ys z2)):∃ o z1 l,f x z=some (.ok o z1)/\turns f r z1=some (.ok l z2)/\ys=(match o with | some y=>y::l | none=>l):=by
 rcases M.bind_some (show M.bind (f x) _ z=_ from h) with ⟨o,z1,e1,e2⟩ | ⟨c,z1,e1,e2⟩
 ·rcases M.bind_some e2 with ⟨l,z3,e3,e4⟩ | ⟨c,z3,e3,e4⟩
  ·cases e4;exact⟨o,z1,l,e1,e3,rfl⟩
  ·cases e4
 ·cases e2
theorem T91{zA:Option Æ}{J:L2.It}{xs ys:List D}{H1:Hp}{z1 z2:Z}{p:Pat}{cond el:Ex}{ρ0:Env}{σ0:L2.St}{Q:VK}(IT:z12 X.K zA J xs H1)(hm:xs.length<=most)(rel0:w50 X.K zA H1 ρ0 σ0)(len:ρ0.length=σ0.length)(st1:d50 zA z1 H1)
  (hc:cond=.nil∨∃ c,cond=.cons c .nil) (e:turns (u90 (ev G.F cond) (ev G.F el) p ρ0) xs z1=some (.ok ys z2))
  (fin:∀ H2 vs l,Ext zA H1 H2->d50 zA z2 H2->HdA X.K (hz zA H2) ys vs->H2 l=none->Q (.ref l) (upd H2 l (.lst vs))):A91 J σ0 H1 (gP X.K p) (ttC X.K G cond) (tI X.K G EF el) Q:=by
 refine⟨λi m vs H=>m=xs.length - i/\i<=xs.length/\vs.length<=i/\∃ yd z rest,Ext zA H1 H/\d50 zA z H/\HdA X.K (hz zA H) yd vs/\turns (u90 (ev G.F cond) (ev G.F el) p ρ0) (xs.drop i) z=some (.ok rest z2)/\ys=yd++rest,
  ⟨xs.length,rfl,Æ6 _,Æ6 _,[],z1,ys,Ext.refl,st1,.nil,by simpa using e,rfl⟩,?_⟩
 rintro i m vs H ⟨rfl,hi,hv,yd,z,rest,x,st,hd,et,ey⟩;by_cases hlt:i < xs.length
 ·refine .inr ⟨IT.go i H x hlt,Ã0 hv (Ø hlt (e40 hm)),
   λws H'=>ws.length<=i + 1/\∃ yd z rest,Ext zA H1 H'/\d50 zA z H'/\HdA X.K (hz zA H') yd ws/\turns (u90 (ev G.F cond) (ev G.F el) p ρ0) (xs.drop (i + 1)) z=some (.ok rest z2)/\ys=yd++rest,
   λws H' q=>⟨xs.length - (i + 1),by omega,rfl,hlt,q.1,q.2⟩,λv H' y=>?_⟩
  obtain⟨sm,hx⟩:=IT.yld i H v H' z xs[i] x st y (by simp[hlt])
  rw[Ü6 hlt] at et;obtain⟨o,z3,l,f1,f2,f3⟩:=i11 et;obtain⟨ρ',b1,f4⟩:=M.a20 (show M.bind (M.of (f20 p xs[i] ρ0)) _ z=_ from f1);have x':Ext zA H1 H':=x.trans (Ext.of sm);have st':=st.same sm;refine r41 b1 (rel0.mono x') len hx λσ' rel' len'=>?_;have yes:∀ {za:Z}{Ha:Hp},Ext zA H' Ha->d50 zA za Ha->M.bind (ev G.F el ρ') (λy=>M.bind (M.of (pl y)) λy=>M.ret (some y)) za=some (.ok o z3)->tI X.K G EF el σ' Ha (λy H4=>(vs++[y]).length<=i + 1/\∃ yd z rest,Ext zA H1 H4/\d50 zA z H4/\HdA X.K (hz zA H4) yd (vs++[y])/\turns (u90 (ev G.F cond) (ev G.F el) p ρ0) (xs.drop (i + 1)) z=some (.ok rest z2)/\ys=yd++rest):=λ{za Ha} xa sta ea=>by
   refine j50 (rel'.mono xa) sta ea (λc z1 h=>by cases h) λm z4 e4=>?_
   obtain⟨d,p1,e5⟩:=M.a20 e4;obtain⟨s1,rfl,q1⟩:=e90 p1;cases e5;refine⟨s1,rfl,λw H4 x4 st4 rv=>⟨by rw[õ];simp;omega,yd++[d],z3,l,(x'.trans xa).trans x4,st4,?_,f2,by rw[ey,f3,Æ7];rfl⟩⟩
   exact(hd.same (a30.trans (j40 sm) (a30.trans xa.same x4.same))).append (.cons (rv.pl.d_ q1) .nil)
  rcases hc with rfl | ⟨c,rfl⟩
  ·have f5:M.bind (ev G.F el ρ') (λy=>M.bind (M.of (pl y)) λy=>M.ret (some y)) z=some (.ok o z3):=f4;have ty:ttC X.K G .nil=A81:=rfl;rw[ty];refine D11 ?_;dsimp only;rw[if_pos rfl];exact yes Ext.refl st' f5
  ·rcases M.bind_some (show M.bind (ev G.F (.cons c .nil) ρ') _ z=_ from f4) with ⟨m,za,e1,e2⟩ | ⟨q,za,e1,e2⟩
   ·rcases M.bind_some (show M.bind (ev G.F c ρ') _ z=_ from e1) with ⟨m',zb,e3,e4⟩ | ⟨q,zb,e3,e4⟩
    ·obtain⟨s,hs,e5⟩:=M.a20 e4;cases e5;have hm':=A80 hs;subst hm';show tT X.K G EF c σ' H' _;have tb:∃ b,s=.d (.bl b):=by
      cases s with
      |d y=>cases y with
       |bl b=>exact⟨b,rfl⟩|_=>cases e2
      |_=>cases e2
     obtain⟨b,rfl⟩:=tb;refine⟨zA,ρ',z,_,rel',st',e3,b,rfl,λHa xa sta=>?_⟩;cases b with
     |true =>
      rw[if_pos rfl];exact yes xa sta e2
     |false =>
      rw[if_neg Ð];cases e2;exact⟨Ò hv (le_succ _),yd,z3,l,x'.trans xa,sta,hd.same (a30.trans (j40 sm) xa),f2,by rw[ey,f3]⟩
    ·cases e4
   ·cases e2
 ·have hi':i=xs.length:=by omega
  subst hi';rw[drop_length] at et;cases et;refine .inl ⟨IT.stop H x,λl hl=>fin H vs l x st (by rw[ey,Á9];exact hd) hl⟩
end
section
variable {K:Á}{zA:Option Æ}{z:Z}{H H2:Hp}{P:Æ}{q:Str}
theorem G01(KB:I30 P H H2)(t:Tab H P q)(t2:Tab H2 P q):Ext zA H H2:=by
 refine⟨λb o h=>?_,λb ps h=>?_⟩
 ·obtain⟨h1,h2⟩:=p00 h;have nt:=p60 h;obtain⟨ps,hp,_⟩:=t;have hb:b≠P:=λz=>by
   subst z;rw[hp] at h1;cases h1;exact nt _ rfl
  exact d20 (KB.same b o hb h1) h2 nt
 ·by_cases hb:b=P
  ·subst hb;obtain⟨qs,e,_⟩:=t2;exact⟨qs,e⟩
  ·exact⟨ps,KB.same b _ hb h⟩
theorem U01(KB:I30 P H H2)(t:Tab H P q)(t2:Tab H2 P q)(uq:∀ p∈TB.tb,p.1=P->p.2=q)(st:d50 zA z H):d50 zA z H2:=by
 obtain⟨ps,hp,_⟩:=t;have ne:∀ {b:Æ}{o:HO},H b=some o->(∀ l,o≠.tbl l)->b≠P:=λ{b o} e1 e2 z=>by
  subst z;rw[hp] at e1;cases e1;exact e2 _ rfl
 refine⟨?_,λp hq=>?_⟩
 ·have h:=st.zat;cases zA with
  |none=>cases z with
   |none=>trivial|some _=>exact h.elim
  |some a=>cases z with
   |none=>exact h.elim
   |some pr =>
    have h':H a=some (.lst [.int pr.1,.bl pr.2]):=h;exact KB.same _ _ (ne h' λ_ z=>nomatch z) h'
 ·by_cases hb:p.1=P
  ·rw[uq p hq hb,hb];exact t2
  ·obtain⟨qs,e,tr,k⟩:=st.tab p hq;refine⟨qs,KB.same _ _ hb e,tr,λpos c hc=>?_⟩;obtain⟨c',e1,e2⟩:=k pos c hc;exact⟨c',e1,KB.same _ _ (ne e2 λ_ z=>nomatch z) e2⟩
theorem s41:∀ l:List Nat,(b40 N l).length<=l.length
 |[]=>Ì _
 |j::q=>by
  have ih:=s41 (N:=N) q;unfold b40;split
  ·rw[Ô,Ô];omega
  ·rw[Ô];omega
theorem P10(rel:w50 K zA H ρ σ):∀ {capt:List Nat}{ss:List S},E51 ρ capt=some ss->(b40 N capt).length=capt.length ->
  ∃ vs,RvA K zA H ss vs/\vs.length=(b40 N capt).length/\∀ (i:Nat) (x:Str) (v:V),((b40 N capt).map (·.1))[i]?=some x->vs[i]?=some v->∃ j:Nat,N[j]?=some x/\σ[j]?=some (some v)
 |[],ss,h,_=>by
  cases h;exact⟨[],.nil,rfl,λi x v h=>by simp[b40] at h⟩
 |i::capt,ss,h,hl=>by
  have h:(match ρ[i]? with | some (some s)=>(E51 ρ capt).map (s::·) | _=>none)=some ss:=h
  have le:=s41 (N:=N) capt;obtain⟨s,r,e2,h3,rfl⟩:∃ s r,ρ[i]?=some (some s)/\E51 ρ capt=some r/\ss=s::r:=by
   split at h
   ·rename_i s e;obtain⟨r,h3,h4⟩:=È.mp h;exact⟨s,r,e,h3,h4.symm⟩
   ·cases h
  obtain⟨v,k1,k2⟩:=rel i s e2;cases hN:N[i]? with
  |none =>
   unfold b40 at hl;rw[hN] at hl;simp only[Ô] at hl;omega
  |some y =>
   unfold b40 at hl ⊢;rw[hN] at hl ⊢;simp only[Ô] at hl;obtain⟨vs,a1,a2,a3⟩:=P10 rel (N:=N) (capt:=capt) h3 ∅
   refine⟨v::vs,.cons k2 a1,by simp[a2],λj x u b1 b2=>?_⟩
   cases j with
   |zero =>
    simp only[Ç0,É4,È4] at b1 b2;subst b1;subst b2;exact⟨i,hN,k1⟩
   |succ j=>exact a3 j x u (by simpa using b1) (by simpa using b2)
theorem b21:∀ {ss:List S}{vs:List V},RvA K zA H ss vs->w50 K zA H (ss.map some) (vs.map some)
 |[],_,h,i,s,e=>by simp at e
 |a::ss,_,h,i,s,e=>by
  cases h with
  |cons h1 h2 =>
   cases i with
   |zero =>
    simp only[Ç0,É4,È4] at e;subst e;exact⟨_,rfl,h1⟩
   |succ i =>
    obtain⟨v,k1,k2⟩:=b21 h2 i s (by simpa using e)
    exact⟨v,by simpa using k1,k2⟩
end
section
variable {lm:Bool}{X:Cx}{G:Gs}{E:XK}{N:List Str}{sc:ú}
theorem l22(x:XI lm X G E N sc)(hlm:lm=true)(hg:glob sc "_law_refused"=true)(hc:(b40 N capt).length=capt.length)(hs:T41 lsc sc (b40 N capt)=true)(hL:isL a=false)
  (ih:∀ (k:Nat) {X:Cx}{E:XK},XI false X (lowG G k) E ((b40 N capt).map (·.1)) lsc->Good X (lowG G k) E a [body]):a90 X G E (.refd capt a) (.Call (.Name "_law_refused" p) [.Lambda ⟨[],[],none,[],[],none,[]⟩ body lsc lpos] [] pos):=by
 obtain⟨c,P,q,k,fR,fdR,L⟩:=x.lam hlm;obtain⟨k1,k2,k3⟩:=d80 hg;unfold T41 at hs;simp only[Â,î,beq_iff_eq,Â0,decide_eq_true_eq] at hs;obtain⟨⟨⟨⟨⟨⟨s1,s2⟩,s3⟩,s4⟩,s5⟩,s6⟩,s7⟩:=hs;refine b10 (λpins s σ H Q I qq=>?_) rfl;obtain⟨zA,ρ,z,rr,rel,st,e,po⟩:=qq;have e0:g12 (E51 ρ capt) (λρ'=>ev (A20 G.F) a ρ') z=some rr:=e;unfold g12 at e0;split at e0
 ·cases e0
 ·rename_i ss hss;split at e0
  ·rename_i cc z1 he;split at e0
   ·rename_i hc12;cases e0;obtain⟨vs,ra,hvl,hvs⟩:=P10 rel hss hc;have tab:=st.tab _ L.tb;have hfree:∀ y∈(b40 N capt).map (·.1),lsc.names.lookup y=some .free:=λy hy=>by
     obtain⟨pr,h1,rfl⟩:=Î.mp hy;exact s6 pr h1
    refine T60 (RR:=λH2 H'=>Ext zA H2 H'/\d50 zA z1 H') (cls:=.ref (G.cls cc)) (N:=(b40 N capt).map (·.1)) (k:=k) (P:=P) (qual:=q) L.fn (by rw[← L.lv];exact x.room) (x.glb _ k1) L.m L.kp L.bd L.code L.hd L.qual L.bm (λy hy hf=>?_) (λy hy=>by simpa using s4 y hy) hfree s1 s2 s3 rfl (λ_ _ _ _=>rfl) k2 rfl pins s σ H Q I ?_
    ·have:=s5 y hy;rw[hf] at this;unfold Env.kindOf;rw[L.sco];simpa using this
    ·refine⟨tab,vs,by rw[Ç];exact hvl,λi y v h1 h2=>by rw[x.hN];exact hvs i y v h1 h2,λH2 KB TB2=>?_⟩
     have x2:Ext zA H H2:=G01 KB tab TB2;have st2:d50 zA z H2:=U01 KB tab TB2 L.uq st;refine⟨λf c' cl A outer s3 H3 hr sm=>?_,λs2 f th=>?_⟩
     ·have XL:XI false (N50 X.prog X.w X.K X.mg X.base ((b40 N capt).map (·.1)) q lsc f (.ref c') cl A outer s3 H3 λc _ H'=>c=.ref (G.cls cc)/\Ext zA H2 H'/\d50 zA z1 H') (lowG G k) (λc _ H'=>c=.ref (G.cls cc)/\Ext zA H2 H'/\d50 zA z1 H') ((b40 N capt).map (·.1)) lsc :=
       { gok:=L.low,num:=x.num,blt:=x.blt,hN:=rfl,nd:=s7,vis:=λy hy=>.inr (.inr (hfree y hy)),glb:=λy h=>h,cel:=λy h=>h,calm:=rfl,room:=hr,pas:=Q61,lam:=λh=>nomatch h }
      refine⟨_,(a80 hL (ih k XL)).pe,?_⟩;refine⟨zA,ss.map some,z,_,b21 (RvA.mono ra (x2.trans (Ext.of sm))),st2.same sm,he,λea H' xx stt hn=>?_⟩;exact⟨rfl,(Ext.of sm).trans xx,stt⟩
     ·refine⟨f,G.cls cc,cc,_,rfl,th,L.cls cc hc12,λl H1 H' hRR sm hl=>?_⟩;obtain⟨x1,st1⟩:=hRR;obtain⟨s',e',po⟩:=po;cases e';have xx:Ext zA H H':=(x2.trans x1).trans (Ext.of sm);have stt:=st1.same sm;exact po _ _ (xx.trans (Ext.of (a30.new _ hl))) (stt.same (a30.new _ hl)) ((p70 stt (HdA.cons Hd.int HdA.nil) hl).from xx)
   ·cases e0
  ·cases e0
end
theorem h70{env:Æ8}{k0:Ê1}(hk:k0≠.free):∀ {names:List (Str × Ê1)}{x:Str},names.lookup x=some k0 ->
  (names.map λ(n,k)=>if (k == ó&&env.scope.kind == .function&&env.kindOf n == some .cell) then(n,Å3) else(n,k)).lookup x=some k0
 |[],_,h=>by simp at h
 |(n,k)::r,x,h=>by
  have ih:=@h70 env k0 hk r x;show Ì4 x ((if (k == ó&&env.scope.kind == .function&&env.kindOf n == some .cell)=true then(n,Å3) else(n,k))::_)=_;cases hx:x == n with
  |true =>
   simp only[À1,hx] at h;cases h;have:(k0 == ó)=false:=by simpa using hk
   rw[this,Ê5,Ê5,if_neg Ð];simp only[À1,hx]
  |false =>
   simp only[À1,hx] at h;by_cases hq:(k == ó&&env.scope.kind == .function&&env.kindOf n == some .cell)=true
   ·rw[if_pos hq];simp only[À1,hx];exact ih h
   ·rw[if_neg hq];simp only[À1,hx];exact ih h
section
variable {lm:Bool}{X:Cx}{G:Gs}{E:XK}{N:List Str}{sc csc:ú}{on:List Str}{cs:List (Str × Nat)}
structure a22(csc sc:Scope)(N on:List Str)(cs:List (Str × Nat)):Prop where
 kind:csc.kind=.function
 nocell:∀ y∈csc.names,y.2≠.cell
 locs:∀ y∈csc.names,y.2=.local->csc.names.lookup y.1=some .local
 frees:∀ y∈csc.names,y.2=.free->(sc.names.lookup y.1=some .cell∨sc.names.lookup y.1=some .free)
 captd:∀ p∈cs,N[p.2]?=some p.1/\csc.names.lookup p.1=some .free
 own:∀ x∈on,csc.names.lookup x=some .local
 nd:(on++cs.map (·.1)).Nodup
theorem l32(h:O70 csc sc N on cs=true):a22 csc sc N on cs:=by
 unfold O70 at h;simp only[Â] at h;obtain⟨⟨⟨⟨⟨⟨h1,h2⟩,h3⟩,h4⟩,h5⟩,h6⟩,h7⟩:=h;rw[Â0] at h2 h3 h4 h5 h6;refine⟨by simpa using h1,λy hy=>by simpa using h2 y hy,λy hy hl=>?_,λy hy hf=>?_,λp hp=>by simpa using h5 p hp,λx hx=>by simpa using h6 x hx,of_decide_eq_true h7⟩
 ·have:=h3 y hy;rw[hl] at this;simpa using this
 ·have:=h4 y hy;rw[hf] at this;simpa using this
theorem s51(x:XI lm X G E N sc)(c:a22 csc sc N on cs):p20 X csc on cs:=⟨c.kind,c.nocell,c.locs,λy hy hf=>x.cel _ (c.frees y hy hf),λp hp=>by rw[x.hN];exact c.captd p hp⟩
theorem s61(x:XI lm X G E N sc)(c:a22 csc sc N on cs)(cl:List (Str × Æ))(C:Æ)(s:Å)(H:Hp)(fp:List Æ):XI false (c60 X (d40 on cs) csc cl C s H fp) G EF (on++cs.map (·.1)) csc where
 gok:=x.gok
 num:=x.num
 blt:=x.blt
 hN:=rfl
 nd:=c.nd
 vis:=λy hy=>by
  rcases À5.mp hy with h | h
  ·exact .inl (h70 (-0) (c.own y h))
  ·obtain⟨p,hp,rfl⟩:=Î.mp h;rcases o00 (env:=X.env) (c.captd p hp).2 with h | h
   ·exact .inr (.inl h)
   ·exact .inr (.inr h)
 glb:=λy hy=>h70 (-0) hy
 cel:=λy hy=>by
  rcases hy with h | h
  ·exact .inl (h70 (-0) h)
  ·exact o00 (env:=X.env) h
 calm:=x.calm
 room:=x.room
 pas:=f12
 lam:=λh=>nomatch h
theorem G11(x:XI lm X G E N sc)(c:a22 csc sc N on cs)(cl:List (Str × Æ))(C:Æ)(s:Å)(H:Hp)(fp:List Æ):F71 (c60 X (d40 on cs) csc cl C s H fp) (on++cs.map (·.1)) (λy=>on.contains y) where
 hN:=rfl
 nd:=c.nd
 lc:=λy hy=>.inl (h70 (-0) (c.own y (by simpa using hy)))
 fn:=λy hy=>.inr (h70 (-0) (c.own y (by simpa using hy)))
 calm:=x.calm
theorem b31:∀ {capt:List Nat},(b40 N capt).length=capt.length->(b40 N capt).map (·.2)=capt
 |[],_=>rfl
 |i::r,h=>by
  have le:∀ l:List Nat,(b40 N l).length<=l.length:=by
   intro l
   induction l with
   |nil=>exact Ì _
   |cons j q ih =>
    unfold b40;split
    ·rw[Ô,Ô];omega
    ·rw[Ô];omega
  unfold b40 at h ⊢;split at h
  ·rename_i y hy;rw[Ô,Ô] at h;rw[Ç0,b31 ∅]
  ·have:=le r;rw[Ô] at h;omega
theorem G21(rel:w50 X.K zA H ρ σ)(h:cs.map (·.2)=capt):w50 X.K zA H (ï on.length none++capt.map λi=>(ρ[i]?).getD none) (q30 on cs σ) /\
  (ï on.length (none:Option S)++capt.map λi=>(ρ[i]?).getD none).length=(q30 on cs σ).length:=by
 subst h;constructor
 ·intro j s e;unfold q30;by_cases hj:j < on.length
  ·rw[Ï3 (by simpa using hj)] at e
   simp[Ñ3,hj] at e
  ·rw[Ä9 (by simpa using hj),Ý9,à,à] at e
   rw[Ä9 (by simpa using hj),Ç,à]
   cases hp:cs[j - on.length]? with
   |none=>rw[hp] at e;simp at e
   |some p =>
    rw[hp] at e;simp only[map_some,È4] at e;have e2:ρ[p.2]?=some (some s):=by
     cases hr:ρ[p.2]? with
     |none=>rw[hr] at e;cases e
     |some o=>rw[hr] at e;exact congrArg some e
    obtain⟨v,h1,h2⟩:=rel p.2 s e2;exact⟨v,by simp[h1],h2⟩
 ·unfold q30;simp
theorem V50(h:s30 e=true)(env:Æ8)(x:Ã):Ç9 e env x=pure x:=by
 cases e with
 |Set _ _ _=>cases h
 |_=>rfl
def E30(X:Cx)(G:Gs)(E:XK)(x:Ex)(elt tg iter:Ñ)(ifs:List Ñ)(csc:ú):Prop:=∃ (own:List Str) (capt:List (Str × Nat)) (wi:TI) (g:TG) (tt:TT) (te:TE),p20 X csc own capt/\PI X tg iter wi /\
 (∀ cl C s H fp,PG (c60 X (d40 own capt) csc cl C s H fp) tg g)/\(∀ cl C s H fp,PTs (c60 X (d40 own capt) csc cl C s H fp) ifs tt)/\(∀ cl C s H fp,PE (c60 X (d40 own capt) csc cl C s H fp) elt te) /\
 (∀ x,Ç9 iter X.env x=pure x)/\∀ σ H Q,tI X.K G E x σ H Q->O61 own capt wi g tt te σ H Q
theorem z22(x:XI lm X G E N sc){p:Pat}{it:It}{src cond el:Ex}{capt:List Nat}{elt tg iter:Ñ}{ifs:List Ñ}(c:a22 csc sc N on cs)(hcap:cs.map (·.2)=capt)(hp:i80 (on++cs.map (·.1)) (λy=>on.contains y) p tg=true)
  (hi:PI X tg iter (tIt X.K G E it src)) (hns:s30 iter=true) (hc:(cond=.nil/\ifs=[])∨∃ q f,cond=.cons q .nil/\ifs=[f]/\∀ cl C s H fp,PT (c60 X (d40 on cs) csc cl C s H fp) f (tT X.K G EF q))
  (he:∀ cl C s H fp,PE (c60 X (d40 on cs) csc cl C s H fp) elt (tI X.K G EF el)):E30 X G E (.comp on.length capt p it src cond el) elt tg iter ifs csc:=by
 have ht:∀ cl C s H fp,PTs (c60 X (d40 on cs) csc cl C s H fp) ifs (ttC X.K G cond):=by
  rcases hc with ⟨rfl,rfl⟩ | ⟨q,f,rfl,rfl,h⟩
  ·exact λcl C s H fp=>O41
  ·exact λcl C s H fp=>m41 (h cl C s H fp)
 refine⟨on,cs,tIt X.K G E it src,gP X.K p,ttC X.K G cond,tI X.K G EF el,s51 x c,hi,λcl C s H fp=>r31 (G11 x c cl C s H fp) hp,ht,he,V50 hns X.env,λσ H Q q=>?_⟩;obtain⟨zA,ρ,z,rr,rel,st,e,po⟩:=q;have e0:M.bind (ev G.F src ρ) (λl=>M.bind (M.of ((plA l).bind (itD it))) λxs=>if xs.length<=most then M.bind (M.calm (turns (u90 (ev G.F cond) (ev G.F el) p (ï on.length none++capt.map λi=>(ρ[i]?).getD none)) xs)) λys=>M.ret [.fr ys] else M.no) z=some rr:=e;rcases M.bind_some e0 with ⟨m,z1,e1,e2⟩ | ⟨k,z1,e1,e2⟩
 ·obtain⟨xs,hx,e3⟩:=M.a20 e2;refine⟨zA,ρ,z,_,rel,st,e1,xs,hx,λJ H1 x1 st1 IT'=>?_⟩;have IT:=IT'.ok;split at e3
  ·rename_i hm;rcases M.bind_some e3 with ⟨ys,z2,e4,e5⟩ | ⟨k,z2,e4,e5⟩
   ·cases e5;have e6:turns (u90 (ev G.F cond) (ev G.F el) p (ï on.length none++capt.map λi=>(ρ[i]?).getD none)) xs z1=some (.ok ys z2):=by
     unfold M.calm at e4;split at e4
     ·rename_i h;cases e4;exact h
     ·cases e4
    obtain⟨r1,r2⟩:=G21 (on:=on) (rel.mono x1) hcap;refine T91 IT hm r1 r2 st1 (by rcases hc with ⟨h,_⟩ | ⟨q,_,h,_⟩;exact .inl h;exact .inr ⟨q,h⟩) e6 λH2 vs l x2 st2 hd hl=>?_
    exact e10 po (x1.trans x2) st2 _ _ (a30.new _ hl) (p70 st2 hd hl)
   ·unfold M.calm at e4;split at e4 <;> cases e4
  ·cases e3
 ·exact⟨zA,ρ,z,_,rel,st,e1,(e70 po) k z1 e2⟩
theorem E30.good(hc:X.calm=true)(h:E30 X G E x elt tg iter ifs csc):a90 X G E x (.ListComp elt [⟨tg,iter,ifs,0⟩] csc pos):=by
 obtain⟨own,capt,wi,g,tt,te,h1,h2,h3,h4,h5,h6,h7⟩:=h;exact b10 (PE.imp (m51 hc h1 h2 h3 h4 h5 h6) h7) rfl
theorem b50(h:(!isL x)=true):isL x=false:=by simpa using h
theorem s71(hL:isL x=true)(g:Good X G E x [e]):∃ a,x=.cons a .nil/\a90 X G E a e:=by
 cases x with
 |nil=>cases (show [e]=[] from g)
 |cons a r =>
  obtain⟨e',es,h,ns,ga,lr,gr⟩:=g;cases h;cases r with
  |nil=>exact⟨a,rfl,ga⟩|cons b q=>obtain⟨e,es,h,_⟩:=gr;cases h
  |_=>cases lr
 |_=>cases hL
theorem P20{lm:Bool}{G:Gs}{own:Nat}{capt:List Nat}{p:Pat}{it:It}{src cond el:Ex}(ihs:(∀ {X:Cx}{E:XK}{N:List Str}{sc:ú},XI lm X G E N sc->∀ {es:List Ñ},mt lm G.fns G.nums src sc N es=true->Good X G E src es))(ihc:(∀ {X:Cx}{E:XK}{N:List Str}{sc:ú},XI false X G E N sc->∀ {es:List Ñ},mt false G.fns G.nums cond sc N es=true->Good X G E cond es))(ihe:(∀ {X:Cx}{E:XK}{N:List Str}{sc:ú},XI false X G E N sc->∀ {es:List Ñ},mt false G.fns G.nums el sc N es=true->Good X G E el es))
  {X:Cx}{E:XK}{N:List Str}{sc:ú} (x:XI lm X G E N sc) {elt tg iter:Ñ}{ifs:List Ñ}{csc:ú} (h:(d00 tg).length == own&&(b40 N capt).length == capt.length&&O70 csc sc N (d00 tg) (b40 N capt)&&i80 (d00 tg++(b40 N capt).map (·.1)) (λx=>(d00 tg).contains x) p tg&&isL src&&!isL el&&isL cond&&ifs.length<=1&&noStar elt&&s30 iter&&ifs.all (λc=>!ifB c) &&
    (match it with
    |.seq=>mt lm G.fns G.nums src sc N [iter]|.rng1=>opt (x32 iter) λr=>r.1.1 == ("range":Str)&&glob sc r.1.1&&mt lm G.fns G.nums src sc N [r.1.2.2.1]|.rng2=>opt (a12 iter) λr=>r.1.1 == ("range":Str)&&glob sc r.1.1&&mt lm G.fns G.nums src sc N [r.1.2.2.1,r.1.2.2.2.1]|.zip=>opt (a12 iter) λr=>r.1.1 == ("zip":Str)&&glob sc r.1.1&&s40 tg&&mt lm G.fns G.nums src sc N [r.1.2.2.1,r.1.2.2.2.1]
    )&&mt false G.fns G.nums cond csc (d00 tg++(b40 N capt).map (·.1)) ifs&&mt false G.fns G.nums el csc (d00 tg++(b40 N capt).map (·.1)) [elt]):E30 X G E (.comp own capt p it src cond el) elt tg iter ifs csc:=by
 simp only[Â,beq_iff_eq,decide_eq_true_eq] at h;obtain⟨⟨⟨⟨⟨⟨⟨⟨⟨⟨⟨⟨⟨h1,h2⟩,h3⟩,h4⟩,h5⟩,h6⟩,h7⟩,h8⟩,h9⟩,h10⟩,h11⟩,h12⟩,h13⟩,h14⟩:=h;subst h1;have c:=l32 h3;have hi:PI X tg iter (tIt X.K G E it src):=by
  cases it with
  |seq =>
   obtain⟨a,rfl,ga⟩:=s71 h5 (ihs x h12);exact L01 ga
  |rng1 =>
   obtain⟨⟨⟨n,_,a,_⟩,rfl⟩,-,h12⟩:=a50 h12;simp only[Â,beq_iff_eq] at h12;exact r91 x h12.1.1 h12.1.2 h5 (ihs x h12.2)
  |rng2 =>
   obtain⟨⟨⟨n,_,a,b,_⟩,rfl⟩,-,h12⟩:=a50 h12;simp only[Â,beq_iff_eq] at h12;exact s01 x h12.1.1 h12.1.2 h5 (ihs x h12.2)
  |zip =>
   obtain⟨⟨⟨n,_,a,b,_⟩,rfl⟩,-,h12⟩:=a50 h12;simp only[Â,beq_iff_eq] at h12;exact s31 x h12.1.2 h12.1.1.1 h12.1.1.2 h5 (ihs x h12.2)
 have hc:(cond=.nil/\ifs=[])∨∃ q f,cond=.cons q .nil/\ifs=[f]/\∀ cl C s H fp,PT (c60 X (d40 (d00 tg) (b40 N capt)) csc cl C s H fp) f (tT X.K G EF q):=by
  match ifs,h8,h11,h13 with
  |[],_,_,h13 =>
   cases cond with
   |nil=>exact .inl ⟨rfl,rfl⟩|cons a r=>cases h13
   |_=>cases h7
  |[f],_,h11,h13 =>
   cases cond with
   |nil=>cases h13
   |cons a r =>
    have h13':(noStar f&&!isL a&&isL r&&mt false G.fns G.nums a csc (d00 tg++(b40 N capt).map (·.1)) [f]&&mt false G.fns G.nums r csc (d00 tg++(b40 N capt).map (·.1)) [])=true:=h13;simp only[Â] at h13';have rn:r=.nil:=by
     cases r with
     |nil=>rfl|cons b q=>cases h13'.2
     |_=>cases h13'.1.1.2
    subst rn;simp only[Å2,all_nil,Ë8] at h11;refine .inr ⟨a,f,rfl,rfl,λcl C s H fp=>?_⟩;obtain⟨e',es,he,ns,ga,lr,gr⟩:=ihc (s61 x c cl C s H fp) h13;cases he;exact ga.pt (T51 h11)
   |_=>cases h7
 refine z22 x c (b31 h2) h4 hi h10 hc λcl C s H fp=>?_;exact(a80 (b50 h6) (ihe (s61 x c cl C s H fp) h14)).pe
theorem B00{K:Á}{H H1:Hp}(sm:a30 H H1):∀ {l:List D}{ys:List V}{kss:List (List Int)},HdA K H l ys->p41 l=some kss->Ä3 (λy ks=>∃ b,y=V.ref b/\SqT K H1 b (ks.map V.int)) ys kss
 |[],_,_,h,e=>by rw[h.e30];cases e;exact .nil
 |d::l,_,_,h,e=>by
  obtain⟨v,r,rfl,h1,h2⟩:=h.b90;obtain⟨k,e1,e2⟩:=Í.mp (show(Z81 d).bind _=_ from e);obtain⟨q,e3,rfl⟩:=È.mp e2;refine .cons ?_ (B00 sm h2 e3);cases d with
  |tup t =>
   obtain⟨b,xs,rfl,k1,k2⟩:=h1.y20;obtain⟨rfl,_⟩:=A60 (show m20 t=some k from e1) k2;exact⟨b,rfl,sm.sqT k1⟩
  |_=>cases e1
theorem z32{K:Á}{zA:Option Æ}{z:Z}{H:Hp}{d:Æ}{kss:List (List Int)}(st:d50 zA z H)(hd:zA≠some d)(h:h41 K H d kss):h41 K (hz zA H) d kss:=by
 obtain⟨xs,h1,h2,h3,h4⟩:=h;exact⟨xs,d20 h1 hd,h2,λx hx=>st.R31 (h3 x hx),h4⟩
theorem z42{n:Str}(h:c20 n=true):(n == ("__debug__":Str))=false:=by
 unfold c20 at h;simp only[Â,î] at h;exact h.1
theorem U11(x:XI lm X G E N sc){a:Ex}{n:Str}{p1 p2 px ps:Pos}{k:Nat}{iter:Ñ}(c:a22 csc sc N [n] [])(hd:c20 n=true)(hns:s30 iter=true)(ga:a90 X G E a iter):a90 X G E (.dkeys a) (.DictComp (.Name n p1) (.Constant (.bool true) k p2) [⟨.Name n px,iter,[],0⟩] csc ps):=by
 refine b10 (PE.imp (E31 x.calm (Nat.lt_of_succ_lt (O21 x.room)) (s51 x c) (c.own n É) (z42 hd) ga.pe (V50 hns X.env)) λσ H Q q=>?_) rfl;obtain⟨zA,ρ,z,rr,rel,st,e,po⟩:=q;refine j50 rel st e (e70 po) λm z1 e1=>?_;obtain⟨kss,g1,e2⟩:=M.a20 e1;obtain⟨d,h1,h2⟩:=Í.mp g1;obtain⟨s1,rfl,q1⟩:=e90 h1;cases e2;refine⟨s1,rfl,λv H1 x1 st1 rv=>?_⟩;cases d with
 |lst l =>
  obtain⟨b,ys,rfl,k1,k2⟩:=(rv.pl.d_ q1).a01;exact⟨b,ys,kss,rfl,(k1.same (a10 zA H1)).sq,B00 (a10 zA H1) k2 h2,λd H2 sm hn ok=>e10 po x1 st1 _ _ sm ⟨d,rfl,z32 (st1.same sm) (st1.a21 hn) ok⟩⟩
 |_=>cases h2
theorem l42(o:Bool)(x:XI lm X G E N sc){a:Ex}{i:Nat}{e:Ñ}{n:Str}{p pos:Pos}(h1:N[i]?=some n)(h2:c20 n=true)(ga:a90 X G E a e):a90 X G E (.memk o a i) (.Compare e [q82 o] [.Name n p] pos):=by
 have h2':=h2;unfold c20 at h2';simp only[Â,î] at h2';have pv:=m50 (X:=X) (i:=i) (pos:=p) (by rw[x.hN];exact h1) (x.vis n (ì h1)) h2'.1 h2'.2
 suffices key:∀ σ H Q,tI X.K G E (.memk o a i) σ H Q->tOp (f52 X.K o) (tI X.K G E a) (Z31 i) σ H Q by
  refine⟨PE.imp (k71 (o91 o (O21 x.room)) ga.pe pv rfl) key,λ_=>PT.imp (k81 (o91 o (O21 x.room)) ga.pe pv rfl) λσ H Q q=>?_,λop vs p h=>by cases h⟩
  obtain⟨zA,ρ,z,rr,rel,st,e,po⟩:=q;exact key σ H _ ⟨zA,ρ,z,rr,rel,st,e,q81 po⟩
 intro σ H Q q;obtain⟨zA,ρ,z,rr,rel,st,e,po⟩:=q;refine j50 rel st e (e70 po) λm z1 e1=>?_;obtain⟨k,g1,e2⟩:=M.a20 e1;obtain⟨d,h3,h4⟩:=Í.mp g1;obtain⟨s1,rfl,q1⟩:=e90 h3;obtain⟨kss,g2,e3⟩:=M.a20 e2;cases e3;refine⟨s1,rfl,λv H1 x1 st1 rv=>?_⟩;have hr:ρ[i]?=some (some (.ks kss)):=by
  unfold v32 at g2;split at g2
  ·cases g2;assumption
  ·cases g2
 obtain⟨w,w1,w2⟩:=(rel.mono x1) i _ hr;obtain⟨b,rfl,ok⟩:=w2;cases d with
 |tup t =>
  obtain⟨c,xs,rfl,k1,k2⟩:=(rv.pl.d_ q1).y20;obtain⟨rfl,_⟩:=A60 (show m20 t=some k from h4) k2;have ok':h41 X.K H1 b kss:=ok.same (a10 zA H1);refine⟨_,w1,c,k,b,kss,rfl,rfl,(a10 zA H1).sqT k1,ok',?_⟩;have eq:kss.contains k=decide (k∈kss):=by rw[þ];simp
  have:=e10 po x1 st1 _ _ (a30.refl H1) (h30 (b:=kss.contains k == o));rw[eq] at this;exact this
 |_=>cases h4
theorem l52:∀ (t:Ex) {lm:Bool}{G:Gs}{X:Cx}{E:XK}{N:List Str}{sc:ú},XI lm X G E N sc->∀ {es:List Ñ},mt lm G.fns G.nums t sc N es=true->Good X G E t es:=by
 intro t
 induction t with
 |nil =>
  intro lm G X E N sc x es h;exact Ë6.mp h
 |cons a r iha ihr =>
  intro lm G X E N sc x es h;cases es with
  |nil=>cases h
  |cons e es =>
   have h:(noStar e&&!isL a&&isL r&&mt lm G.fns G.nums a sc N [e]&&mt lm G.fns G.nums r sc N es)=true:=h;simp only[Â] at h;obtain⟨⟨⟨⟨h1,h2⟩,h3⟩,h4⟩,h5⟩:=h;exact⟨e,es,rfl,h1,a80 (b50 h2) (iha x h4),h3,ihr x h5⟩
 |var i =>
  intro lm G X E N sc x es h;obtain⟨⟨q,rfl⟩,-,h⟩:=a50 h;simp only[Â,beq_iff_eq] at h;exact b70 rfl (x52 x h.1 h.2)
 |con d =>
  intro lm G X E N sc x es h;rcases (À6 _ _).mp h with h | h
  ·obtain⟨⟨q,rfl⟩,-,h⟩:=a50 h;exact b70 rfl (x62 h)
  ·obtain⟨⟨p,rfl⟩,-,h⟩:=a50 h;cases d with
   |dct=>exact b70 rfl x72|_=>cases h
 |gint g i =>
  intro lm G X E N sc x es h;obtain⟨⟨⟨n,p⟩,rfl⟩,-,h⟩:=a50 h;simp only[Â,beq_iff_eq,Ì3] at h;obtain⟨⟨rfl,h2⟩,h3⟩:=h;exact b70 rfl (j32 x h2 h3)
 |tup as ih =>
  intro lm G X E N sc x es h;obtain⟨⟨q,rfl⟩,-,h⟩:=a50 h;simp only[Â] at h;exact b70 rfl (x82 h.1 (ih x h.2))
 |lst as ih =>
  intro lm G X E N sc x es h;obtain⟨⟨q,rfl⟩,-,h⟩:=a50 h;simp only[Â] at h;exact b70 rfl (x92 h.1 (ih x h.2))
 |bin o a b iha ihb =>
  intro lm G X E N sc x es h;obtain⟨⟨⟨l,op,r,p⟩,rfl⟩,-,h⟩:=a50 h;simp only[Â,beq_iff_eq] at h;obtain⟨⟨⟨⟨rfl,h2⟩,h3⟩,h4⟩,h5⟩:=h;exact b70 rfl (y02 (a80 (b50 h2) (iha x h4)) (a80 (b50 h3) (ihb x h5)))
 |cmp o a b iha ihb =>
  intro lm G X E N sc x es h;obtain⟨⟨⟨l,op,r,p⟩,rfl⟩,-,h⟩:=a50 h;simp only[Â,beq_iff_eq] at h;obtain⟨⟨⟨⟨⟨rfl,h1⟩,h2⟩,h3⟩,h4⟩,h5⟩:=h;exact b70 rfl (y12 x h1 (a80 (b50 h2) (iha x h4)) (a80 (b50 h3) (ihb x h5)))
 |neg a ih =>
  intro lm G X E N sc x es h;obtain⟨⟨q,rfl⟩,-,h⟩:=a50 h;simp only[Â] at h;exact b70 rfl (y22 (a80 (b50 h.1) (ih x h.2)))
 |not a ih =>
  intro lm G X E N sc x es h;obtain⟨⟨q,rfl⟩,-,h⟩:=a50 h;simp only[Â] at h;obtain⟨⟨h1,h2⟩,h3⟩:=h;exact b70 rfl (y32 (a80 (b50 h1) (ih x h3)) (T51 h2))
 |and a b iha ihb =>
  intro lm G X E N sc x es h;obtain⟨⟨⟨l,r,vs,p⟩,rfl⟩,-,h⟩:=a50 h;simp only[Â] at h;obtain⟨⟨⟨⟨h1,h2⟩,h3⟩,h4⟩,h5⟩:=h;refine b70 rfl (y42 (a80 (b50 h1) (iha x h4)) (T51 h3) ?_);cases vs with
  |nil =>
   rw[if_pos (show([]:List Ñ).isEmpty=true from rfl),Â] at h5;exact j42 (a80 (b50 h2) (ihb x h5.2)) (T51 h5.1)
  |cons v vs =>
   rw[if_neg (by exact Ð)] at h5
   exact a80 (b50 h2) (ihb x h5)
 |or a b iha ihb =>
  intro lm G X E N sc x es h;obtain⟨⟨⟨l,r,vs,p⟩,rfl⟩,-,h⟩:=a50 h;simp only[Â] at h;obtain⟨⟨⟨⟨h1,h2⟩,h3⟩,h4⟩,h5⟩:=h;refine b70 rfl (L12 (a80 (b50 h1) (iha x h4)) (T51 h3) ?_);cases vs with
  |nil =>
   rw[if_pos (show([]:List Ñ).isEmpty=true from rfl),Â] at h5;exact j42 (a80 (b50 h2) (ihb x h5.2)) (T51 h5.1)
  |cons v vs =>
   rw[if_neg (by exact Ð)] at h5
   exact a80 (b50 h2) (ihb x h5)
 |orT a b iha ihb =>
  intro lm G X E N sc x es h;obtain⟨⟨⟨l,r,vs,p⟩,rfl⟩,-,h⟩:=a50 h;simp only[Â] at h;obtain⟨⟨⟨⟨h1,h2⟩,h3⟩,h4⟩,h5⟩:=h;cases vs with
  |nil=>exact b70 rfl (y52 (a80 (b50 h1) (iha x h4)) (a80 (b50 h2) (ihb x h5)))|cons v vs=>cases h3
 |ite c a b ihc iha ihb =>
  intro lm G X E N sc x es h;obtain⟨⟨q,rfl⟩,-,h⟩:=a50 h;simp only[Â] at h;obtain⟨⟨⟨⟨⟨⟨h1,h2⟩,h3⟩,h4⟩,h5⟩,h6⟩,h7⟩:=h;exact b70 rfl (y62 (a80 (b50 h1) (ihc x h5)) (T51 h4) (a80 (b50 h2) (iha x h6)) (a80 (b50 h3) (ihb x h7)))
 |ch o o' a b c iha ihb ihc =>
  intro lm G X E N sc x es h;obtain⟨⟨⟨l,op,op',r,s,p⟩,rfl⟩,-,h⟩:=a50 h;simp only[Â,beq_iff_eq] at h;obtain⟨⟨⟨⟨⟨⟨⟨⟨rfl,rfl⟩,h1⟩,h2⟩,h3⟩,h4⟩,h5⟩,h6⟩,h7⟩:=h;exact b70 rfl (L22 x h1 (a80 (b50 h2) (iha x h5)) (a80 (b50 h3) (ihb x h6)) (a80 (b50 h4) (ihc x h7)))
 |bf f as ih =>
  intro lm G X E N sc x es h;obtain⟨⟨q,rfl⟩,-,h⟩:=a50 h;simp only[Â,beq_iff_eq] at h;obtain⟨⟨⟨⟨h1,h2⟩,h3⟩,h4⟩,h5⟩:=h;exact b70 rfl (L32 x h1 h2 h3 h4 (ih x h5))
 |isi t a ih =>
  intro lm G X E N sc x es h;obtain⟨⟨⟨n,q,e,ty,p⟩,rfl⟩,-,h⟩:=a50 h;simp only[Â,beq_iff_eq] at h;obtain⟨⟨⟨⟨⟨h1,h2⟩,h3⟩,h4⟩,h5⟩,h6⟩:=h;have g:=a80 (b50 h4) (ih x h5);refine b70 rfl ?_;have one:∀ t:Ty,t≠.seq->(opt (shN ty) λq=>q.1.1 == Á6 (tyN t)&&glob sc (Á6 (tyN t)))=true->a90 X G E (.isi t a) (.Call (.Name n q) [e,ty] [] p):=λt hs h6=>by
   obtain⟨⟨⟨a,_⟩,rfl⟩,-,h6⟩:=a50 h6;simp only[Â,beq_iff_eq] at h6;obtain⟨rfl,k1⟩:=h6;exact k42 x hs k1 h1 h2 h3 g
  cases t with
  |seq =>
   obtain⟨⟨⟨a,_,b,_,_,_⟩,rfl⟩,-,h6⟩:=a50 h6;simp only[Â,beq_iff_eq] at h6;obtain⟨⟨⟨rfl,rfl⟩,k1⟩,k2⟩:=h6;exact k52 x k1 k2 h1 h2 h3 g
  |_=>exact one _ (λh=>by cases h) h6
 |idx a i iha ihi =>
  intro lm G X E N sc x es h;obtain⟨⟨q,rfl⟩,-,h⟩:=a50 h;simp only[Â] at h;obtain⟨⟨⟨⟨h1,h2⟩,h3⟩,h4⟩,h5⟩:=h;exact b70 rfl (y82 h1 (a80 (b50 h2) (iha x h4)) (a80 (b50 h3) (ihi x h5)))
 |sl a lo hi iha ihl ihh =>
  intro lm G X E N sc x es h;obtain⟨⟨q,rfl⟩,-,h⟩:=a50 h;simp only[Â] at h;obtain⟨⟨⟨⟨⟨h1,h2⟩,h3⟩,h4⟩,h5⟩,h6⟩:=h;exact b70 rfl (L42 (a80 (b50 h1) (iha x h4)) h2 h3 (ihl x h5) (ihh x h6))
 |call f as ih =>
  intro lm G X E N sc x es h;obtain⟨⟨⟨n,q,e,l,p⟩,rfl⟩,-,h⟩:=a50 h;simp only[Â] at h;obtain⟨⟨⟨h1,h2⟩,h3⟩,h4⟩:=h;obtain⟨pr,hf,h1'⟩:=a50 h1;simp only[Â,beq_iff_eq] at h1';obtain⟨rfl,h7⟩:=h1';exact b70 rfl (s_call x hf h7 h2 h3 (ih x h4))
 |comp own capt p it src cond el ihs ihc ihe =>
  intro lm G X E N sc x es h;obtain⟨⟨q,rfl⟩,-,h⟩:=a50 h;exact b70 rfl ((P20 ihs ihc ihe x h).good x.calm)
 |lrng b as ih =>
  intro lm G X E N sc x es h;obtain⟨⟨⟨n,p,m,q,a,r,t⟩,rfl⟩,-,h⟩:=a50 h;simp only[Â,beq_iff_eq] at h;obtain⟨⟨⟨⟨⟨⟨h1,h2⟩,h3⟩,h4⟩,h5⟩,h7⟩,h6⟩:=h;subst h1;subst h2;cases a with
  |nil=>simp at h7|cons a l=>exact b70 rfl (k82 x h3 h4 h5 (ih x h6))
 |dkeys a ih =>
  intro lm G X E N sc x es h;obtain⟨⟨q,rfl⟩,-,h⟩:=a50 h;simp only[Â] at h;obtain⟨⟨⟨⟨h1,h2⟩,h3⟩,h4⟩,h5⟩:=h;exact b70 rfl (U11 x (l32 h1) h2 h3 (a80 (b50 h4) (ih x h5)))
 |memk o a i ih =>
  intro lm G X E N sc x es h;obtain⟨⟨q,rfl⟩,-,h⟩:=a50 h;simp only[Â,beq_iff_eq] at h;obtain⟨⟨⟨h1,h2⟩,h3⟩,h4⟩:=h;exact b70 rfl (l42 o x h1 h2 (a80 (b50 h3) (ih x h4)))
 |zget i k =>
  intro lm G X E N sc x es h;obtain⟨⟨⟨n,p,j,c,q,r⟩,rfl⟩,-,h⟩:=a50 h;simp only[Â,beq_iff_eq] at h;obtain⟨⟨h1,h2⟩,h3⟩:=h;have h3:j=(k:Int):=h3;subst h3;exact b70 rfl (k62 x h1 h2)
 |refd capt a ih =>
  intro lm G X E N sc x es h;obtain⟨⟨⟨n,p,body,lsc,lpos,pos⟩,rfl⟩,-,h⟩:=a50 h;simp only[Â,beq_iff_eq] at h;obtain⟨⟨⟨⟨⟨⟨h1,h2⟩,h3⟩,h4⟩,h5⟩,h6⟩,h7⟩:=h;have h2:n="_law_refused":=h2;subst h2;exact b70 rfl (l22 x h1 h3 h4 h5 (b50 h6) λk X E xl=>ih xl h7)
theorem sound(G:Gs)(t:Ex)(x:XI lm X G E N sc)(h:mt lm G.fns G.nums t sc N es=true):Good X G E t es:=l52 t x h
end
open Classical in
def hw(ow:Nat->Option Æ)(H:Hp):Hp:=λb=>if ∃ i,ow i=some b then none else H b
section
variable {K:Á}{ow:Nat->Option Æ}{H H':Hp}
theorem g40:a30 (hw ow H) H:=λb o e=>by
 unfold hw at e;split at e
 ·cases e
 ·exact e
theorem g80(h:H b=some o)(n:∀ i,ow i≠some b):hw ow H b=some o:=by
 unfold hw;rw[if_neg (λ⟨i,e⟩=>n i e)];exact h
theorem B10(h:hw ow H b=some o):H b=some o/\∀ i,ow i≠some b:=by
 refine⟨g40 b o h,λi e=>?_⟩;unfold hw at h;rw[if_pos ⟨i,e⟩] at h;cases h
theorem d10(e:a30 H H'):a30 (hw ow H) (hw ow H'):=λb o h=>by
 obtain⟨h1,h2⟩:=B10 h;exact g80 (e b o h1) h2
theorem m80:hw (λ_=>none) H=H:=by
 funext b
 unfold hw;rw[if_neg (λ⟨i,e⟩=>by cases e)]
theorem b41(h:SqT K H a xs)(hl:∀ i b,ow i=some b->∃ ys,H b=some (.lst ys)):SqT K (hw ow H) a xs:=by
 rcases h with (h | ⟨o,h⟩) | h
 ·refine .inl (.inl (g80 h λi e=>?_));obtain⟨ys,q⟩:=hl i a e;rw[h] at q;cases q
 ·refine .inl (.inr ⟨o,g80 h λi e=>?_⟩);obtain⟨ys,q⟩:=hl i a e;rw[h] at q;cases q
 ·exact .inr h
mutual
theorem J70(hl:∀ i b,ow i=some b->∃ ys,H b=some (.lst ys)):∀ {d:D}{v:V},bare d=true->Hd K H d v->Hd K (hw ow H) d v
 |.non,_,_,h=>by rw[h.D52];exact Hd.non|.bl _,_,_,h=>by rw[h.bl_];exact Hd.bl|.int _,_,_,h=>by rw[h.j30];exact Hd.int|.str _,_,_,h=>by rw[h.D62];exact Hd.str
 |.tup l,_,b,h=>by
  obtain⟨a,xs,rfl,h1,h2⟩:=h.y20;exact Hd.tup (b41 h1 hl) (y40 hl (by simpa [bare] using b) h2)
 |.lst _,_,b,_=>by cases b
 |.dct,_,b,_=>by cases b
theorem y40(hl:∀ i b,ow i=some b->∃ ys,H b=some (.lst ys)):∀ {ds:List D}{vs:List V},i70 ds=true->HdA K H ds vs->HdA K (hw ow H) ds vs
 |[],_,_,h=>by rw[h.e30];exact .nil
 |d::ds,_,b,h=>by
  obtain⟨x,r,rfl,h1,h2⟩:=h.b90;simp only[i70,Â] at b;exact .cons (J70 hl b.1 h1) (y40 hl b.2 h2)
end
theorem z52(hl:∀ i b,ow i=some b->∃ ys,H b=some (.lst ys)){d:Æ}{kss:List (List Int)}(h:h41 K H d kss):h41 K (hw ow H) d kss:=by
 obtain⟨xs,h1,h2,h3,h4⟩:=h;refine⟨xs,g80 h1 λi e=>?_,h2,λx hx=>b41 (h3 x hx) hl,h4⟩;obtain⟨ys,q⟩:=hl i d e;rw[h1] at q;cases q
end
def RvW(K:Á)(zA:Option Æ)(ow:Nat->Option Æ)(H:Hp)(i:Nat):S->V->Prop
 |.d x,v=>ow i=none/\Hd K (hw ow (hz zA H)) x v|.fr xs,v=>∃ a ys,ow i=some a/\v=.ref a/\H a=some (.lst ys)/\HdA K (hw ow (hz zA H)) xs ys|.z,v=>ow i=none/\∃ a,zA=some a/\v=.ref a|.ks l,v=>ow i=none/\∃ d,v=.ref d/\h41 K (hw ow (hz zA H)) d l
structure RW(K:PySem.W.Frag)(H0:Hp)(zE zA:Option Addr)(ow:Nat->Option Addr)(H:Hp)(ρ:Env)(σ:L2.St):Prop where
 len:ρ.length=σ.length
 inj:∀ i j a,ow i=some a->ow j=some a->i=j
 zne:∀ i a,ow i=some a->zA≠some a
 own:∀ i a,ow i=some a->∃ xs,ρ[i]?=some (some (.fr xs))
 wor:∀ i s,ρ[i]?=some (some s)->∃ v,σ[i]?=some (some v)/\RvW K zA ow H i s v
 ext:Ext zE H0 H
 zok:zA=zE∨(zE=none/\∀ a,zA=some a->H0 a=none)
 new:∀ i a,ow i=some a->H0 a=none
section
variable {K:Á}{H0 H H':Hp}{zE zA:Option Æ}{ow:Nat->Option Æ}{ρ:Env}{σ:L2.St}
theorem RW.lst(r:RW K H0 zE zA ow H ρ σ):∀ i a,ow i=some a->∃ ys,H a=some (.lst ys):=λi a e=>by
 obtain⟨xs,h⟩:=r.own i a e;obtain⟨v,h1,a',ys,h2,h3,h4,h5⟩:=r.wor i _ h;rw[e] at h2;cases h2;exact⟨ys,h4⟩
theorem RW.L11(r:RW K H0 zE zA ow H ρ σ):∀ i a,ow i=some a->∃ ys,hz zA H a=some (.lst ys):=λi a e=>by
 obtain⟨ys,h⟩:=r.lst i a e;exact⟨ys,d20 h (r.zne i a e)⟩
theorem RvW.pl{i:Nat}{s:S}{v:V}(h:RvW K zA ow H i s v)(hz':∀ a,ow i=some a->zA≠some a):RvP K zA H s v:=by
 cases s with
 |d x=>exact h.2.same g40|z=>exact h.2|ks l=>obtain⟨_,d,q,k⟩:=h;exact⟨d,q,k.same g40⟩
 |fr xs =>
  obtain⟨a,ys,h1,rfl,h3,h4⟩:=h;exact Hd.lst (d20 h3 (hz' a h1)) (h4.same g40)
theorem RW.S20(r:RW K H0 zE zA ow H ρ σ):w50 K zA H ρ σ:=λi s e=>by
 obtain⟨v,h1,h2⟩:=r.wor i s e;exact⟨v,h1,h2.pl λa q=>r.zne i a q⟩
theorem RvW.mono{i:Nat}{s:S}{v:V}(h:RvW K zA ow H i s v)(hz':∀ a,ow i=some a->zA≠some a)(x:Ext zA H H'):RvW K zA ow H' i s v:=by
 cases s with
 |d y=>exact⟨h.1,h.2.same (d10 x)⟩|z=>exact h|ks l=>obtain⟨n,d,q,k⟩:=h;exact⟨n,d,q,k.same (d10 x)⟩
 |fr xs =>
  obtain⟨a,ys,h1,rfl,h3,h4⟩:=h;exact⟨a,ys,h1,rfl,x.at h3 (hz' a h1),h4.same (d10 x)⟩
theorem L21(zA:Option Æ)(H:Hp):a30 (hz zA H) (hz none H):=λ_ _ h=>d20 (p00 h).1 (λq=>nomatch q) (p60 h)
theorem s81(e:Ext zE H0 H)(zok:zA=zE∨(zE=none/\∀ a,zA=some a->H0 a=none))(x:Ext zA H H'):Ext zE H0 H':=by
 rcases zok with rfl | ⟨rfl,hn⟩
 ·exact e.trans x
 ·refine⟨λb o h=>?_,λb ps h=>let ⟨qs,q⟩:=e.tbl b ps h;x.tbl b qs q⟩;have h1:=e.same b o h;refine d20 (x.at (p00 h1).1 (λq=>?_) (p60 h1)) (λq=>nomatch q) (p60 h1);have h0:=(p00 h).1;rw[hn b q] at h0;cases h0
theorem RW.mono(r:RW K H0 zE zA ow H ρ σ)(x:Ext zA H H'):RW K H0 zE zA ow H' ρ σ :=
 ⟨r.len,r.inj,r.zne,r.own,λi s e=>let ⟨v,h1,h2⟩:=r.wor i s e;⟨v,h1,h2.mono (λa q=>r.zne i a q) x⟩,s81 r.ext r.zok x,r.zok,r.new⟩
theorem RW.young(r:RW K H0 zE zA ow H ρ σ)(h:H a=none)(n:zA≠some a):H0 a=none/\zE≠some a:=by
 have hE:zE≠some a:=λq=>by
  rcases r.zok with rfl | ⟨rfl,_⟩
  ·exact n q
  ·cases q
 exact⟨r.ext.free h hE,hE⟩
theorem RW.out(r:RW K H0 zE zA ow H ρ σ){s:S}{v:V}(hs:s≠.z)(x:Ext zA H H')(h:RvS K zA H H' s v):RvS K zE H0 H' s v:=by
 have sm:a30 (hz zA H') (hz zE H'):=by
  rcases r.zok with rfl | ⟨rfl,_⟩
  ·exact a30.refl _
  ·exact L21 _ _
 cases s with
 |d y=>exact Hd.same sm h|z=>exact absurd rfl hs|ks l=>obtain⟨d,q,k⟩:=h;exact⟨d,q,k.same sm⟩
 |fr xs =>
  obtain⟨a,ys,rfl,h1,h2,h3,h4⟩:=h;obtain⟨k1,k2⟩:=r.young h1 h2;exact⟨a,ys,rfl,k1,k2,h3,h4.same (z60 λb o _ q=>sm b o q)⟩
theorem RW.L52(r:RW K H0 zE zA ow H ρ σ){i:Nat}{s:S}(hs:s≠.z)(e:ρ[i]?=some (some s)):∃ v,σ[i]?=some (some v)/\RvS K zE H0 H s v:=by
 obtain⟨v,h1,h2⟩:=r.wor i s e;have sm:a30 (hz zA H) (hz zE H):=by
  rcases r.zok with rfl | ⟨rfl,_⟩
  ·exact a30.refl _
  ·exact L21 _ _
 refine⟨v,h1,?_⟩;cases s with
 |d y=>exact Hd.same (a30.trans g40 sm) h2.2|z=>exact absurd rfl hs|ks l=>obtain⟨_,d,q,k⟩:=h2;exact⟨d,q,k.same (a30.trans g40 sm)⟩
 |fr xs =>
  obtain⟨a,ys,k1,rfl,k3,k4⟩:=h2;have n:=r.zne i a k1;have hE:zE≠some a:=λq=>by
   rcases r.zok with rfl | ⟨rfl,_⟩
   ·exact n q
   ·cases q
  refine⟨a,ys,rfl,r.new i a k1,hE,k3,k4.same λb o q=>?_⟩;obtain⟨q1,q2⟩:=B10 q;exact H80 (sm b o q1) λz=>q2 i (by rw[z];exact k1)
theorem RW.U00(r:RW K H0 zE zA ow H ρ σ):RW K H0 zE zA (λ_=>none) H (U00 ρ) σ:=by
 refine⟨by unfold Q.U00;rw[Ç];exact r.len,λi j a h=>(by cases h),λi a h=>(by cases h),λi a h=>(by cases h),λi s e=>?_,r.ext,r.zok,λi a h=>(by cases h)⟩
 unfold Q.U00 at e;rw[à] at e;obtain⟨o,e1,e2⟩:=È.mp e;cases o with
 |none=>cases e2
 |some s0 =>
  cases e2;obtain⟨v,h1,h2⟩:=r.S20 i s0 e1;refine⟨v,h1,?_⟩;cases s0 with
  |d y=>exact⟨rfl,by rw[m80];exact h2⟩|fr xs=>exact⟨rfl,by rw[m80];exact h2⟩|z=>exact⟨rfl,h2⟩|ks l=>exact⟨rfl,by rw[m80];exact h2⟩
def ow0(ow:Nat->Option Æ)(i:Nat):Nat->Option Addr:=λj=>if j=i then none else ow j
def ow1(ow:Nat->Option Æ)(i:Nat)(a:Æ):Nat->Option Addr:=λj=>if j=i then some a else ow j
theorem RvW.move{ow':Nat->Option Æ}{j:Nat}{s:S}{v:V}(h:RvW K zA ow H j s v)(e:ow' j=ow j)(sm:a30 (hw ow (hz zA H)) (hw ow' (hz zA H')))(hk:∀ a,ow j=some a->H' a=H a):RvW K zA ow' H' j s v:=by
 cases s with
 |d y=>exact⟨by rw[e];exact h.1,h.2.same sm⟩|z=>exact⟨by rw[e];exact h.1,h.2⟩|ks l=>obtain⟨n,d,q,k⟩:=h;exact⟨by rw[e];exact n,d,q,k.same sm⟩
 |fr xs =>
  obtain⟨a,ys,h1,rfl,h3,h4⟩:=h;exact⟨a,ys,by rw[e];exact h1,rfl,by rw[hk a h1];exact h3,h4.same sm⟩
theorem getElem?_set'{α:Type}{l:List α}{i j:Nat}{x y:α}(h:(l.set i x)[j]?=some y):(j=i/\y=x/\i < l.length)∨(j≠i/\l[j]?=some y):=by
 by_cases hj:j=i
 ·subst hj;have hlt:j < l.length:=by
   have:=(Û.mp h).1;simpa using this
  rw[ñ hlt] at h;cases h;exact .inl ⟨rfl,rfl,hlt⟩
 ·rw[ê (Á0 hj)] at h;exact .inr ⟨hj,h⟩
theorem RW.L62(r:RW K H0 zE zA ow H ρ σ){i:Nat}(h:Hd K (hw ow (hz zA H)) x v):RW K H0 zE zA (ow0 ow i) H (ρ.set i (some (.d x))) (σ.set i (some v)):=by
 have sub:∀ j a,ow0 ow i j=some a->j≠i/\ow j=some a:=λj a e=>by
  unfold ow0 at e;split at e
  ·cases e
  ·rename_i n;exact⟨n,e⟩
 have sm:a30 (hw ow (hz zA H)) (hw (ow0 ow i) (hz zA H)):=λb o e=>by
  obtain⟨e1,e2⟩:=B10 e;exact g80 e1 λj q=>e2 j (sub j b q).2
 refine⟨by rw[Ã8,Ã8];exact r.len,λj k a h1 h2=>r.inj j k a (sub j a h1).2 (sub k a h2).2,λj a h1=>r.zne j a (sub j a h1).2,λj a h1=>?_,λj s e=>?_,r.ext,r.zok,λj a h1=>r.new j a (sub j a h1).2⟩
 ·obtain⟨n,h2⟩:=sub j a h1;obtain⟨xs,h3⟩:=r.own j a h2;exact⟨xs,by rw[ê (Á0 n)];exact h3⟩
 ·rcases getElem?_set' e with ⟨rfl,e1,hlt⟩ | ⟨n,e1⟩
  ·cases e1;exact⟨v,ñ (by rw[← r.len];exact hlt),by unfold ow0;exact if_pos rfl,h.same sm⟩
  ·obtain⟨w,h1,h2⟩:=r.wor j s e1;exact⟨w,by rw[ê (Á0 n)];exact h1,h2.move (by unfold ow0;exact if_neg n) sm λ_ _=>rfl⟩
theorem RW.E22(r:RW K H0 zE zA ow H ρ σ){i:Nat}{t:S}{v:V}(h:RvW K zA (ow0 ow i) H i t v):RW K H0 zE zA (ow0 ow i) H (ρ.set i (some t)) (σ.set i (some v)):=by
 have sub:∀ j a,ow0 ow i j=some a->j≠i/\ow j=some a:=λj a e=>by
  unfold ow0 at e;split at e
  ·cases e
  ·rename_i n;exact⟨n,e⟩
 have sm:a30 (hw ow (hz zA H)) (hw (ow0 ow i) (hz zA H)):=λb o e=>by
  obtain⟨e1,e2⟩:=B10 e;exact g80 e1 λj q=>e2 j (sub j b q).2
 refine⟨by rw[Ã8,Ã8];exact r.len,λj k a h1 h2=>r.inj j k a (sub j a h1).2 (sub k a h2).2,λj a h1=>r.zne j a (sub j a h1).2,λj a h1=>?_,λj s e=>?_,r.ext,r.zok,λj a h1=>r.new j a (sub j a h1).2⟩
 ·obtain⟨n,h2⟩:=sub j a h1;obtain⟨xs,h3⟩:=r.own j a h2;exact⟨xs,by rw[ê (Á0 n)];exact h3⟩
 ·rcases getElem?_set' e with ⟨rfl,e1,hlt⟩ | ⟨n,e1⟩
  ·cases e1;exact⟨v,ñ (by rw[← r.len];exact hlt),h⟩
  ·obtain⟨w,h1,h2⟩:=r.wor j s e1;exact⟨w,by rw[ê (Á0 n)];exact h1,h2.move (by unfold ow0;exact if_neg n) sm λ_ _=>rfl⟩
theorem RW.L72(r:RW K H0 zE zA ow H ρ σ){i:Nat}(x:Ext zA H H')(hn:H a=none)(za:zA≠some a)(hl:H' a=some (.lst ys))(h:HdA K (hw (ow1 ow i a) (hz zA H')) xs ys)(hi:i < ρ.length) :
  RW K H0 zE zA (ow1 ow i a) H' (ρ.set i (some (.fr xs))) (σ.set i (some (.ref a))):=by
 have r':=r.mono x;have old:∀ j b,ow j=some b->b≠a:=λj b e q=>by
  obtain⟨zs,h1⟩:=r.lst j b e;rw[q,hn] at h1;cases h1
 have sub:∀ j b,ow1 ow i a j=some b->(j=i/\b=a)∨(j≠i/\ow j=some b):=λj b e=>by
  unfold ow1 at e;split at e
  ·rename_i n;cases e;exact .inl ⟨n,rfl⟩
  ·rename_i n;exact .inr ⟨n,e⟩
 have sm:a30 (hw ow (hz zA H)) (hw (ow1 ow i a) (hz zA H')):=λb o e=>by
  obtain⟨e1,e2⟩:=B10 e;have e3:=(p00 e1).1;have hb:b≠a:=λq=>by rw[q,hn] at e3;cases e3
  refine g80 (x b o e1) λj q=>?_;rcases sub j b q with ⟨_,q⟩ | ⟨_,q⟩
  ·exact hb q
  ·exact e2 j q
 refine⟨by rw[Ã8,Ã8];exact r.len,λj k b h1 h2=>?_,λj b h1=>?_,λj b h1=>?_,λj s e=>?_,r'.ext,r.zok,λj b h1=>?_⟩
 ·rcases sub j b h1 with ⟨q1,q2⟩ | ⟨q1,q2⟩
  ·rcases sub k b h2 with ⟨p1,p2⟩ | ⟨p1,p2⟩
   ·rw[q1,p1]
   ·exact absurd q2 (old k b p2)
  ·rcases sub k b h2 with ⟨p1,p2⟩ | ⟨p1,p2⟩
   ·exact absurd p2 (old j b q2)
   ·exact r.inj j k b q2 p2
 ·rcases sub j b h1 with ⟨_,q2⟩ | ⟨_,q2⟩
  ·rw[q2];exact za
  ·exact r.zne j b q2
 ·rcases sub j b h1 with ⟨q1,q2⟩ | ⟨q1,q2⟩
  ·rw[q1];exact⟨xs,ñ hi⟩
  ·obtain⟨zs,h3⟩:=r.own j b q2;exact⟨zs,by rw[ê (Á0 q1)];exact h3⟩
 ·rcases getElem?_set' e with ⟨rfl,e1,hlt⟩ | ⟨n,e1⟩
  ·cases e1;exact⟨.ref a,ñ (by rw[← r.len];exact hlt),a,ys,by unfold ow1;exact if_pos rfl,rfl,hl,h⟩
  ·obtain⟨w,h1,h2⟩:=r.wor j s e1;refine⟨w,by rw[ê (Á0 n)];exact h1,h2.move (by unfold ow1;exact if_neg n) sm λb q=>?_⟩
   obtain⟨zs,k⟩:=r.lst j b q;rw[k];exact x.at k (r.zne j b q)
 ·rcases sub j b h1 with ⟨_,q2⟩ | ⟨_,q2⟩
  ·rw[q2];exact(r.young hn za).1
  ·exact r.new j b q2
theorem RW.upd(r:RW K H0 zE zA ow H ρ σ){i:Nat}(e:ow i=some a)(h:HdA K (hw ow (hz zA H)) xs ys):RW K H0 zE zA ow (upd H a (.lst ys)) (ρ.set i (some (.fr xs))) σ:=by
 have za:=r.zne i a e;have sm:a30 (hw ow (hz zA H)) (hw ow (hz zA (L2.upd H a (.lst ys)))):=λb o q=>by
  obtain⟨e1,e2⟩:=B10 q;obtain⟨e3,e4⟩:=p00 e1;have hb:b≠a:=λz=>e2 i (by rw[z];exact e)
  exact g80 (d20 (by rw[a40 hb];exact e3) e4 (p60 e1)) e2
 obtain⟨xs0,h0⟩:=r.own i a e;have hi:i < ρ.length:=(Û.mp h0).1;obtain⟨v0,s0,a0,ys0,q1,q2,q3,q4⟩:=r.wor i _ h0;rw[e] at q1;cases q1;refine⟨by rw[Ã8];exact r.len,r.inj,r.zne,λj b h1=>?_,λj s q=>?_,⟨λb o q=>?_,λb ps q=>?_⟩,r.zok,r.new⟩
 ·by_cases hj:j=i
  ·subst hj;exact⟨xs,ñ hi⟩
  ·obtain⟨zs,h3⟩:=r.own j b h1;exact⟨zs,by rw[ê (Á0 hj)];exact h3⟩
 ·rcases getElem?_set' q with ⟨rfl,e1,hlt⟩ | ⟨n,e1⟩
  ·cases e1;exact⟨v0,s0,a,ys,e,q2,b20,h.same sm⟩
  ·obtain⟨w,h1,h2⟩:=r.wor j s e1;refine⟨w,h1,h2.move rfl sm λb q=>?_⟩;have hb:b≠a:=λz=>n (r.inj j i b q (by rw[z];exact e))
   exact a40 hb
 ·obtain⟨e1,e2⟩:=p00 (r.ext b o q);have hb:b≠a:=λz=>by
   have:=(p00 q).1;rw[z,r.new i a e] at this;cases this
  exact d20 (by rw[a40 hb];exact e1) e2 (p60 q)
 ·obtain⟨qs,e1⟩:=r.ext.tbl b ps q;have hb:b≠a:=λz=>by rw[z,q3] at e1;cases e1
  exact⟨qs,by rw[a40 hb];exact e1⟩
end
end Q
namespace Q
open PySem L2 PySem.Spec PyProof.Rows
variable [TB:Tb]
def r02:Option Æ->Z->Z
 |none,_=>none|some _,z=>z
def p10(K:Á)(G:Gs)(E:XK)(H0:Hp)(zE:Option Æ)(B:Hp)(D:Ends):R O->Prop
 |.ok (.nx ρ) z=>∀ zA ow σ H,RW K H0 zE zA ow H ρ σ->d50 zA z H->a30 B (hw ow (hz zA H))->D.nx σ H|.ok (.rt s) z=>∀ v H,s≠.z->Ext zE H0 H->d50 zE (r02 zE z) H->RvS K zE H0 H s v->D.rt v H|.er c z=>∀ e H,Ext zE H0 H->d50 zE (r02 zE z) H->H e=none->E (.ref (G.cls c)) (some e) H
def tX(K:Á)(G:Gs)(E:XK)(H0:Hp)(zE:Option Æ)(x:Sm):TS:=λD σ H=>∃ zA ow ρ z r,RW K H0 zE zA ow H ρ σ/\d50 zA z H/\ex G.F zE.isNone x ρ z=some r/\p10 K G E H0 zE (hw ow (hz zA H)) D r
section
variable {K:Á}{G:Gs}{E:XK}{H0 H H':Hp}{zE zA:Option Æ}{ow:Nat->Option Æ}{ρ:Env}{σ:L2.St}{Dn:Ends}{z:Z}
theorem a32(zok:zA=zE∨(zE=none/\∀ a,zA=some a->H0 a=none))(st:d50 zA z H):d50 zE (r02 zE z) H:=by
 cases zE with
 |none=>exact⟨trivial,st.tab⟩
 |some a =>
  rcases zok with rfl | ⟨h,_⟩
  ·exact st
  ·cases h
theorem p10.er_(po:p10 K G E H0 zE B Dn (.er c z))(r:RW K H0 zE zA ow H ρ σ):EPost G zA E c z H:=λe H' x st n=>po e H' (s81 r.ext r.zok x) (a32 r.zok st) n
theorem p10.ers(po:p10 K G E H0 zE B Dn rr)(r:RW K H0 zE zA ow H ρ σ):∀ c z1,rr=.er c z1->EPost G zA E c z1 H:=λc z1 e=>by subst e;exact po.er_ r
theorem p10.mono(po:p10 K G E H0 zE B Dn rr)(h:a30 B B'):p10 K G E H0 zE B' Dn rr:=by
 match rr,po with
 |.ok (.nx _) _,po=>exact λzA ow σ H r st sm=>po zA ow σ H r st (a30.trans h sm)|.ok (.rt _) _,po=>exact po|.er _ _,po=>exact po
theorem o40(ow:Nat->Option Æ)(i:Nat):a30 (hw ow H) (hw (ow0 ow i) H):=λb o e=>by
 obtain⟨e1,e2⟩:=B10 e;refine g80 e1 λj q=>?_;unfold ow0 at q;split at q
 ·cases q
 ·exact e2 j q
theorem B20(ow:Nat->Option Æ):a30 (hw ow H) (hw (λ_=>none) H):=λb o e=>g80 (B10 e).1 λj q=>nomatch q
theorem G31(x:Ext zA H H')(hn:H a=none)(i:Nat):a30 (hw ow (hz zA H)) (hw (ow1 ow i a) (hz zA H')):=λb o e=>by
 obtain⟨e1,e2⟩:=B10 e;have e3:=(p00 e1).1;have hb:b≠a:=λq=>by rw[q,hn] at e3;cases e3
 refine g80 (x b o e1) λj q=>?_;unfold ow1 at q;split at q
 ·cases q;exact hb rfl
 ·exact e2 j q
theorem V60(e:ow i=some a):a30 (hw ow (hz zA H)) (hw ow (hz zA (upd H a o))):=λb u q=>by
 obtain⟨e1,e2⟩:=B10 q;obtain⟨e3,e4⟩:=p00 e1;have hb:b≠a:=λw=>e2 i (by rw[w];exact e)
 exact g80 (d20 (by rw[a40 hb];exact e3) e4 (p60 e1)) e2
mutual
theorem G41:∀ {p:Pat}{d:D}{ρ ρ':Env},f20 p d ρ=some ρ'->∀ {ow:Nat->Option Æ}{σ:L2.St}{v:V}{R:L2.St->Hp->Prop},RW K H0 zE zA ow H ρ σ->Hd K (hw ow (hz zA H)) d v ->
  (∀ ow' σ',RW K H0 zE zA ow' H ρ' σ'->a30 (hw ow (hz zA H)) (hw ow' (hz zA H))->R σ' H)->gP K p v σ H R
 |.v i,d,ρ,ρ',e,ow,σ,v,R,r,hd,k=>by
  unfold f20 at e;cases e;unfold gP;exact k _ _ (r.L62 hd) (o40 ow i)
 |.tup ps,d,ρ,ρ',e,ow,σ,v,R,r,hd,k=>by
  unfold f20 at e;cases d with
  |tup l =>
   obtain⟨a,xs,rfl,h1,h2⟩:=hd.y20;unfold gP;exact⟨a,xs,rfl,(a10 zA H).sqT (a30.sqT g40 h1),by rw[h2.length];exact A90 e,s91 e r h2 k⟩
  |_=>cases e
 |.nil,_,_,_,e,_,_,_,_,_,_,_=>by unfold f20 at e;cases e
 |.cons _ _,_,_,_,e,_,_,_,_,_,_,_=>by unfold f20 at e;cases e
theorem s91:∀ {r:Pat}{l:List D}{ρ ρ':Env},bindL r l ρ=some ρ'->∀ {ow:Nat->Option Æ}{σ:L2.St}{vs:List V}{R:L2.St->Hp->Prop},RW K H0 zE zA ow H ρ σ->HdA K (hw ow (hz zA H)) l vs ->
  (∀ ow' σ',RW K H0 zE zA ow' H ρ' σ'->a30 (hw ow (hz zA H)) (hw ow' (hz zA H))->R σ' H)->gL K r vs σ H R
 |.nil,l,ρ,ρ',e,ow,σ,vs,R,r,hd,k=>by
  unfold bindL at e;cases l with
  |nil =>
   cases e;unfold gL;exact⟨hd.e30,k ow σ r (a30.refl _)⟩
  |cons x l=>cases e
 |.cons p q,l,ρ,ρ',e,ow,σ,vs,R,r,hd,k=>by
  unfold bindL at e;cases l with
  |nil=>cases e
  |cons x l =>
   obtain⟨ρ1,e1,e2⟩:=Í.mp e;obtain⟨v,ws,rfl,h1,h2⟩:=hd.b90;unfold gL;exact⟨v,ws,rfl,G41 e1 r h1 λow' σ' r' sm=>s91 e2 r' (h2.same sm) λow2 σ2 r2 sm2=>k ow2 σ2 r2 (a30.trans sm sm2)⟩
 |.v _,_,_,_,e,_,_,_,_,_,_,_=>by unfold bindL at e;cases e
 |.tup _,_,_,_,e,_,_,_,_,_,_,_=>by unfold bindL at e;cases e
end
theorem t01(r:RW K H0 zE zA ow H ρ σ)(s:S):∃ ow',RW K H0 zE zA ow' H (k40 s ρ) σ/\a30 (hw ow (hz zA H)) (hw ow' (hz zA H))/\(D00 s=true∨∀ i,ow' i=none):=by
 unfold k40;rw[O00];cases hb:D00 s with
 |true=>exact⟨ow,r,a30.refl _,.inl rfl⟩|false=>exact⟨_,r.U00,B20 ow,.inr λ_=>rfl⟩
theorem G51{p:Pat}{s:S}{v:V}{ρ':Env}{R:L2.St->Hp->Prop}(r:RW K H0 zE zA ow H ρ σ)(x:Ext zA H H')(rv:RvS K zA H H' s v)(e:I70 p s (k40 s ρ)=some ρ')
  (k:∀ ow' σ',RW K H0 zE zA ow' H' ρ' σ'->a30 (hw ow (hz zA H)) (hw ow' (hz zA H'))->R σ' H'):gP K p v σ H' R:=by
 obtain⟨owk,r1,s1,b1⟩:=t01 r s;have r2:=r1.mono x;have s2:a30 (hw ow (hz zA H)) (hw owk (hz zA H')):=a30.trans s1 (d10 x);cases s with
 |d y =>
  have e':f20 p y (k40 (.d y) ρ)=some ρ':=by cases p <;> exact e
  refine G41 e' r2 ?_ λow' σ' r3 s3=>k ow' σ' r3 (a30.trans s2 s3);rcases b1 with b1 | b1
  ·exact J70 r2.L11 b1 rv
  ·have:owk=λ_=>none:=funext b1;subst this;rw[m80];exact rv
 |z =>
  cases p with
  |v i =>
   simp only[I70] at e;split at e
   ·cases e;unfold gP;exact k _ _ (r2.E22 (t:=.z) ⟨if_pos rfl,rv⟩) (a30.trans s2 (o40 owk i))
   ·cases e
  |_=>cases e
 |ks l =>
  cases p with
  |v i =>
   simp only[I70] at e;split at e
   ·cases e;unfold gP;obtain⟨d,rfl,h1⟩:=rv;exact k _ _ (r2.E22 (t:=.ks l) ⟨if_pos rfl,d,rfl,(z52 r2.L11 h1).same (o40 owk i)⟩) (a30.trans s2 (o40 owk i))
   ·cases e
  |_=>cases e
 |fr xs =>
  cases p with
  |v i =>
   simp only[I70] at e;split at e
   ·rename_i hi;cases e;unfold gP;obtain⟨a,ys,rfl,h1,h2,h3,h4⟩:=rv;refine k _ _ (r1.L72 x h1 h2 h3 ?_ hi) (a30.trans s1 (G31 x h1 i));rcases b1 with b1 | b1
    ·refine y40 (λj b q=>?_) b1 (h4.same (f90 a _));unfold ow1 at q;split at q
     ·cases q;exact⟨ys,d20 h3 h2⟩
     ·exact r2.L11 j b q
    ·refine h4.same λb o q=>?_;have hb:b≠a:=λw=>by subst w;unfold hide at q;rw[if_pos rfl] at q;cases q
     refine g80 (f90 a _ b o q) λj w=>?_;unfold ow1 at w;split at w
     ·cases w;exact hb rfl
     ·rw[b1 j] at w;cases w
   ·cases e
  |_=>cases e
end
end Q
namespace Q
open PySem L2 PySem.Spec PyProof.Rows
variable [TB:Tb]
theorem U21(h:s40 v=false):Ã4 [tg] v env=pure none:=by
 cases tg <;> first | rfl | (cases v <;> first | (cases h;done) | rfl)
theorem U31(h:vs.all (Ù2 8)=true):Ã4 [.Tuple ts k p] (.Tuple vs k' p') env=pure none:=by
 unfold Ã4;simp only[h,if_true];split
 ·rfl
 ·split
  ·rfl
  ·split
   ·rfl
   ·rfl
def t11(look:Str->Option Ê1):Ñ->Bool
 |.Name id _=>look id != some .local|_=>true
theorem U41(h:ts.any (t11 env.kindOf)=true):Ã4 [.Tuple ts k p] (.Tuple vs k' p') env=pure none:=by
 have hl:∀ (l:Nat) (ts:List Ñ),ts.any (t11 env.kindOf)=true->(ts.filterMap fun
   |.Name id pos=>if env.kindOf id == some .local&&pos.line == l then some id else none
   |_=>none).length < ts.length:=by
  intro l ts
  induction ts with
  |nil=>intro h;cases h
  |cons e r ih =>
   intro h;have le:=List.length_filterMap_le (fun
    |.Name id pos=>if env.kindOf id == some .local&&pos.line == l then some id else none
    |_=>none:Ñ->Option Str) r
   rw[List.any_cons,À6] at h;rw[À7];split
   ·rw[Ô];omega
   ·rename_i b hb;rcases h with h | h
    ·exfalso;cases e with
     |Name id pos =>
      have h':(env.kindOf id != some .local)=true:=h;simp only[bne_iff_ne,ne_eq] at h';simp[h'] at hb
     |_=>cases hb
    ·have:=ih h;rw[Ô,Ô];omega
 unfold Ã4;dsimp only;split
 ·rfl
 ·split
  ·rfl
  ·have:=hl ((ts.head?.map (·.pos.line)).getD 0) ts h;rw[if_pos];simp only[À6,bne_iff_ne,ne_eq];exact .inl (ä this)
theorem l62{x y:Str}{a b:Ñ}{px py pt pt2:Pos}{k k2:Nat}{env:Æ8}(hb:env.blockKind=.function)(hx:env.kindOf x=some .local)(hy:env.kindOf y=some .local)(hxy:(x == y)=false)(hl:(py.line == px.line)=true)
  (ha:noStar a=true) (hb':noStar b=true) (hf:[a,b].all (Ù2 8)=false) (hc:[a,b].all (constantsAlone 8)=false) :
  Ã4 [.Tuple [.Name x px,.Name y py] k pt] (.Tuple [a,b] k2 pt2) env=pure (some [x,y]):=by
 have hbk:(env.blockKind != .function)=false:=by rw[hb];rfl
 have e1:(x == x)=true:=beq_self_eq_true x;have hyx:(y == x)=false:=by
  cases h:y == x with
  |false=>rfl|true=>rw[beq_iff_eq] at h;subst h;rw[e1] at hxy;cases hxy
 have hl2:(Ñ.Name x px).pos.line=px.line:=rfl;have hl3:(Ñ.Name y py).pos.line=py.line:=rfl;have hl':py.line=px.line:=by simpa using hl
 unfold Ã4;simp only[List.filterMap,List.head?,Ë2,Option.getD,hx,hy,hf,hc,hbk,hl2,hl'];simp[List.eraseDups,List.eraseDupsBy,List.eraseDupsBy.loop,hyx,hxy];intro h;rcases h with h | h
 ·cases a <;> first | (cases h;done) | (cases ha;done)
 ·cases b <;> first | (cases h;done) | (cases hb';done)
def P30:Ñ->Bool
 |.ListComp ..=>false|.SetComp ..=>false|.DictComp ..=>false|_=>true
theorem s60(h:P30 v=true)(t:Option Ñ):Ð2 v t n env=pure false:=by
 cases v <;> first | rfl | (cases h;done)
theorem P40(h:(match tg with | .Name ..=>true | _=>false)=false):Ð2 v (some tg) n env=pure false:=by
 cases v <;> first | rfl | (cases tg <;> first | rfl | (cases h;done))
theorem G61{a b:Ñ}{c:List Comprehension}{d:ú}{f px:Pos}{t:Str}{n:Nat}{env:Æ8}(h:env.kindOf t=some .cell∨env.kindOf t=some .free):Ð2 (.DictComp a b c d f) (some (.Name t px)) n env=pure false:=by
 show(pure (env.blockKind == .function&&env.kindOf t == some .local&&_&&_):Sem Bool)=_;have e:(env.kindOf t == some .local)=false:=by rcases h with h | h <;> rw[h] <;> rfl
 rw[e,Î1,Ê5,Ê5]
theorem G71{el:Ñ}{gs:List Comprehension}{sc:ú}{p px:Pos}{t:Str}{n:Nat}{env:Æ8}:∃ b,Ð2 (.ListComp el gs sc p) (some (.Name t px)) n env=pure b:=⟨_,rfl⟩
structure XS(lm:Bool)(X:Cx)(G:Gs)(E:XK)(N:List Str)(sc:Scope)(cn:List Str):Prop extends XI lm X G E N sc where
 sco:X.env.scope=sc
 fnk:sc.kind=.function
 own:PassesOwn (model X.prog X.w) X.A X.env X.xe
 can:I20 X E
 fnx:∀ x,X.fn x=true
 cls:∀ c x,cn[c]?=some x->X.mg x=some (.ref (G.cls c))/\PySem.W.excIn X.K (G.cls c) [.type "ValueError",.type "Exception",.type "BaseException",.type "object"] "ValueError.__new__"=true
def P50(sc:ú)(x:Str):Bool:=sc.names.lookup x == some .local || sc.names.lookup x == some .cell
section
variable {lm:Bool}{X:Cx}{G:Gs}{E:XK}{N:List Str}{sc:ú}{cn:List Str}{H0:Hp}{zE:Option Æ}
theorem XS.loc(x:XS lm X G E N sc cn):F71 X N (P50 sc):=by
 refine⟨x.hN,x.nd,λy h=>?_,λy _=>.inl (x.fnx y),x.calm⟩;unfold P50 at h;rw[À6,beq_iff_eq,beq_iff_eq] at h;rw[x.sco];exact h
theorem XS.bk(x:XS lm X G E N sc cn):X.env.blockKind=.function:=by
 unfold Env.blockKind;rw[x.sco,x.fnk];rfl
theorem PS.imp{st:Å0}{t t':TS}(h:PS X st t)(i:∀ D σ H,t' D σ H->t D σ H):PS X st t':=λpins s σ H D I q=>h pins s σ H D I (i _ _ _ q)
theorem PSs.imp{st:List Å0}{t t':TS}(h:PSs X st t)(i:∀ D σ H,t' D σ H->t D σ H):PSs X st t':=λpins s σ H D I q=>h pins s σ H D I (i _ _ _ q)
theorem z62:PSs X [] (tX X.K G E H0 zE .nil):=PSs.imp k21 λD σ H q=>by
 obtain⟨zA,ow,ρ,z,r,rw,st,e,po⟩:=q;cases e;exact po zA ow σ H rw st (a30.refl _)
theorem z72{s r:Sm}{st:Å0}{rest:List Å0}(h1:PS X st (tX X.K G E H0 zE s))(h2:PSs X rest (tX X.K G E H0 zE r)):PSs X (st::rest) (tX X.K G E H0 zE (.seq s r)):=PSs.imp (i90 h1 h2) λD σ H q=>by
 obtain⟨zA,ow,ρ,z,rr,rw,st,e,po⟩:=q;have e0:M.bind (ex G.F zE.isNone s ρ) (λo=>match o with | .nx ρ=>ex G.F zE.isNone r ρ | .rt s=>M.ret (.rt s)) z=some rr:=e
 rcases M.bind_some e0 with ⟨o,z1,e1,e2⟩ | ⟨c,z1,e1,e2⟩
 ·refine⟨zA,ow,ρ,z,_,rw,st,e1,?_⟩;cases o with
  |nx ρ1=>exact λzA' ow' σ' H' rw' st' sm=>⟨zA',ow',ρ1,z1,rr,rw',st',e2,po.mono sm⟩|rt s=>cases e2;exact po
 ·subst e2;exact⟨zA,ow,ρ,z,_,rw,st,e1,po⟩
theorem L31{p:Pat}{e:Ex}{D:Ends}{σ:L2.St}{H:Hp}(q:tX X.K G E H0 zE (.set p e) D σ H):c12 (tI X.K G E e) (gP X.K p) D σ H:=by
 obtain⟨zA,ow,ρ,z,rr,rw,st,ee,po⟩:=q;refine j50 rw.S20 st ee (po.ers rw) λl z1 e1=>?_;obtain⟨s,hs,e2⟩:=M.a20 e1;refine⟨s,A80 hs,λv H1 x1 st1 rv=>?_⟩;obtain⟨ρ',hb,e3⟩:=M.a20 e2;cases e3;exact G51 rw x1 rv hb λow' σ' r' sm=>po zA ow' σ' H1 r' st1 sm
theorem L82{K:Á}{i:Nat}:gP K (.v i)=S50 i:=by unfold gP;rfl
theorem z82(x:XS lm X G E N sc cn){i:Nat}{e:Ex}{y:Str}{v:Ñ}{px pos:Pos}(hi:N[i]?=some y)(hl:P50 sc y=true)(g:a90 X G E e v)
  (hc:∀ elt gs csc q,v=.ListComp elt gs csc q->∃ tg iter ifs,gs=[⟨tg,iter,ifs,0⟩]/\E30 X G E e elt tg iter ifs csc) (hno:∀ a b c d,v≠.SetComp a b c d)
  (hnd:∀ a b c d f,v=.DictComp a b c d f->sc.names.lookup y=some .cell) :
  PS X (.Assign [.Name y px] v pos) (tX X.K G E H0 zE (.set (.v i) e)):=by
 have L:=x.loc;refine PS.imp (t:=c12 (tI X.K G E e) (S50 i)) ?_ λD σ H q=>by rw[← L82 (K:=X.K)];exact L31 q
 have h1:X.N.Nodup:=by rw[x.hN];exact x.nd
 have h2:X.N[i]?=some y:=by rw[x.hN];exact hi
 by_cases hv:∃ elt gs csc q,v=.ListComp elt gs csc q
 ·obtain⟨elt,gs,csc,q,rfl⟩:=hv;obtain⟨b,hb⟩:=G71 (el:=elt) (gs:=gs) (sc:=csc) (p:=q) (px:=px) (t:=y) (n:=pos.line) (env:=X.env);cases b with
  |false=>exact r40 h1 h2 (L.lc y hl) g.pe hb (L.fn y hl)
  |true =>
   obtain⟨tg,iter,ifs,rfl,own,capt,wi,gg,tt,te,k1,k2,k3,k4,k5,k6,k7⟩:=hc elt gs csc q rfl;refine PS.imp (O71 h1 h2 (L.lc y hl) hb x.calm k1 k2 k3 k4 k5 k6 (L.fn y hl)) λD σ H q=>k7 _ _ _ q
 ·by_cases hd:∃ a b c d f,v=.DictComp a b c d f
  ·obtain⟨a,b,c,d,f,rfl⟩:=hd;exact r40 h1 h2 (L.lc y hl) g.pe (G61 (x.cel y (.inl (hnd _ _ _ _ _ rfl)))) (L.fn y hl)
  ·exact r40 h1 h2 (L.lc y hl) g.pe (s60 (by cases v <;> first | rfl | exact absurd rfl (hno _ _ _ _) | exact absurd ⟨_,_,_,_,_,rfl⟩ hd | exact absurd ⟨_,_,_,_,rfl⟩ hv) _) (L.fn y hl)
theorem t21(x:XS lm X G E N sc cn)(hp:i80 N (P50 sc) p tg=true)(g:a90 X G E e v)(ht:s40 tg=true)(hv:Ã4 [tg] v X.env=pure none) :
  PS X (.Assign [tg] v pos) (tX X.K G E H0 zE (.set p e)):=by
 refine PS.imp (J11 g.pe (r31 x.loc hp) ?_ hv ?_) λD σ H q=>L31 q
 ·exact P40 (by cases tg <;> first | rfl | (cases ht;done))
 ·cases tg <;> first | rfl | (cases ht;done)
theorem z92(x:XS lm X G E N sc cn){i j:Nat}{ea eb:Ex}{a b:Ñ}{y w:Str}{px py pt pt2 pos:Pos}{k k2:Nat}(hi:N[i]?=some y)(hj:N[j]?=some w)(hyw:(y == w)=false)(hy:sc.names.lookup y=some .local)(hw':sc.names.lookup w=some .local)
  (g:Good X G E (.cons ea (.cons eb .nil)) [a,b]) (hs:Ã4 [.Tuple [.Name y px,.Name w py] k pt] (.Tuple [a,b] k2 pt2) X.env=pure (some [y,w])) :
  PS X (.Assign [.Tuple [.Name y px,.Name w py] k pt] (.Tuple [a,b] k2 pt2) pos) (tX X.K G E H0 zE (.set (.tup (.cons (.v i) (.cons (.v j) .nil))) (.tup (.cons ea (.cons eb .nil))))):=by
 have hij:i≠j:=λh=>by
  subst h;rw[hi] at hj;cases hj;rw[beq_self_eq_true] at hyw;cases hyw
 refine PS.imp (c22 x.calm (by rw[x.hN];exact x.nd) (by rw[x.hN];exact hi) (by rw[x.hN];exact hj) hij (by rw[x.sco];exact hy) (by rw[x.sco];exact hw') (g.args rfl).1 hs rfl) λD σ H q=>?_
 obtain⟨zA,ow,ρ,z,rr,rw,st,ee,po⟩:=q;have e0:M.bind (M.bind (ev G.F (.cons ea (.cons eb .nil)) ρ) λl=>M.bind (M.of (plA l)) λds=>if ds.length<=most then M.ret [S.d (.tup ds)] else M.no) (λl=>M.bind (M.of (one l)) λs=>M.bind (M.of (I70 (.tup (.cons (.v i) (.cons (.v j) .nil))) s (k40 s ρ))) λρ=>M.ret (O.nx ρ)) z=some rr:=ee;rcases M.bind_some e0 with ⟨l0,z0,e1,e2⟩ | ⟨c,z1,e1,e2⟩
 ·rcases M.bind_some e1 with ⟨l,z1,e3,e4⟩ | ⟨c,z1,e3,e4⟩
  ·obtain⟨ds,hds,e5⟩:=M.a20 e4;split at e5
   ·cases e5;obtain⟨s,hs',e6⟩:=M.a20 e2;cases hs';obtain⟨ρ',hb,e7⟩:=M.a20 e6;cases e7;refine⟨zA,ρ,z,_,rw.S20,st,e3,λvs H1 x1 st1 rvs=>?_⟩;have hd:=O90 rvs hds;obtain⟨owk,r1,s1,b1⟩:=t01 rw (.d (.tup ds));have hb':bindL (.cons (.v i) (.cons (.v j) .nil)) ds (k40 (.d (.tup ds)) ρ)=some ρ':=by
     have:f20 (.tup (.cons (.v i) (.cons (.v j) .nil))) (.tup ds) (k40 (.d (.tup ds)) ρ)=some ρ':=hb;unfold f20 at this;exact this
    have r2:=r1.mono x1;have hd2:HdA X.K (hw owk (hz zA H1)) ds vs:=by
     rcases b1 with b1 | b1
     ·exact y40 r2.L11 (by simpa [D00,bare] using b1) hd
     ·have:owk=λ_=>none:=funext b1;subst this;rw[m80];exact hd
    have:=s91 hb' (R:=D.nx) r2 hd2 λow' σ' r' sm=>po zA ow' σ' H1 r' st1 (a30.trans s1 (a30.trans (d10 x1) sm));unfold gL at this;obtain⟨v,vr,rfl,this⟩:=this;unfold gP gL at this;obtain⟨u,ur,rfl,this⟩:=this;unfold gP gL at this;obtain⟨rfl,this⟩:=this;exact⟨v,u,rfl,this⟩
   ·cases e5
  ·cases e4
 ·subst e2;rcases M.bind_some e1 with ⟨l,z2,e3,e4⟩ | ⟨c,z2,e3,e4⟩
  ·obtain⟨ds,hds,e5⟩:=M.a20 e4;split at e5 <;> cases e5
  ·cases e4;exact⟨zA,ρ,z,_,rw.S20,st,e3,po.er_ rw⟩
theorem L41{s t:S}(h:noS s=some t):s=t/\t≠.z:=by
 cases s with
 |z=>cases h
 |ks _=>cases h
 |d _=>cases h;exact⟨rfl,λh=>nomatch h⟩
 |fr _=>cases h;exact⟨rfl,λh=>nomatch h⟩
theorem l72(x:XS lm X G E N sc cn){i:Nat}{n:Str}{p pos:Pos}(h1:N[i]?=some n)(h2:c20 n=true):PS X (.Return (some (.Name n p)) pos) (tX X.K G E H0 zE (.ret (.var i))):=by
 unfold c20 at h2;simp only[Â,î] at h2;refine PS.imp (Y50 (m50 (i:=i) (by rw[x.hN];exact h1) (x.vis n (ì h1)) h2.1 h2.2)) λD σ H q=>?_
 obtain⟨zA,ow,ρ,z,rr,rw,st,ee,po⟩:=q;have e0:(match ρ[i]? with | some (some s)=>M.bind (M.of (noS s)) λs=>M.ret (O.rt s) | _=>M.no) z=some rr:=ee
 cases hs:ρ[i]? with
 |none=>rw[hs] at e0;cases e0
 |some o =>
  cases o with
  |none=>rw[hs] at e0;cases e0
  |some s =>
   rw[hs] at e0;obtain⟨t,ht,e1⟩:=M.a20 e0;cases e1;obtain⟨rfl,nz⟩:=L41 ht;obtain⟨v,k1,k2⟩:=rw.L52 nz hs;exact⟨v,k1,po v H nz rw.ext (a32 rw.zok st) k2⟩
theorem A02(hv:∀ i,e≠.var i)(g:a90 X G E e v):PS X (.Return (some v) pos) (tX X.K G E H0 zE (.ret e)):=by
 refine PS.imp (Y50 g.pe) λD σ H q=>?_;obtain⟨zA,ow,ρ,z,rr,rw,st,ee,po⟩:=q;have e0:M.bind (ev G.F e ρ) (λl=>M.bind (M.of ((one l).bind noS)) λs=>M.ret (O.rt s)) z=some rr:=by
  cases e <;> first | exact ee | exact absurd rfl (hv _)
 refine j50 rw.S20 st e0 (po.ers rw) λl z1 e1=>?_;obtain⟨t,ht,e2⟩:=M.a20 e1;cases e2;obtain⟨s,hs,hn⟩:=Í.mp ht;obtain⟨rfl,nz⟩:=L41 hn;exact⟨s,A80 hs,λv H1 x1 st1 rv=>po v H1 nz (s81 rw.ext rw.zok x1) (a32 rw.zok st1) (rw.out nz x1 rv)⟩
theorem L92(g:a90 X G E c ce)(hn:∀ t a b p,ce≠.IfExp t a b p)(ha:PSs X a (tX X.K G E H0 zE t))(hb:PSs X b (tX X.K G E H0 zE u)) :
  PS X (.If ce a b pos) (tX X.K G E H0 zE (.iff c t u)):=by
 refine PS.imp (b72 (g.pt hn) ha hb) λD σ H q=>?_;obtain⟨zA,ow,ρ,z,rr,rw,st,ee,po⟩:=q;refine O60 rw.S20 st ee (po.ers rw) λb z1 e1 H1 x1 st1=>?_;have r1:=rw.mono x1;have sm:a30 (hw ow (hz zA H)) (hw ow (hz zA H1)):=d10 x1;cases b with
 |true=>exact⟨zA,ow,ρ,z1,rr,r1,st1,e1,po.mono sm⟩|false=>exact⟨zA,ow,ρ,z1,rr,r1,st1,e1,po.mono sm⟩
theorem A12(g:a90 X G E e v)(h:P30 v=true):PS X (.Expr v pos) (tX X.K G E H0 zE (.exp e)):=by
 refine PS.imp (S40 g.pe (s60 h none)) λD σ H q=>?_;obtain⟨zA,ow,ρ,z,rr,rw,st,ee,po⟩:=q;have e0:M.bind (ev G.F e ρ) (λl=>M.bind (M.of (one l)) λ_=>M.ret (O.nx ρ)) z=some rr:=ee;refine j50 rw.S20 st e0 (po.ers rw) λl z1 e1=>?_;obtain⟨s,hs,e2⟩:=M.a20 e1;cases e2;exact⟨s,A80 hs,λv H1 x1 st1 rv=>po zA ow σ H1 (rw.mono x1) st1 (d10 x1)⟩
theorem x_raise(x:XS lm X G E N sc cn){c:Nat}{n:Str}{y:Str}{k:Nat}{p1 p2 p3 p4:Pos}(hc:cn[c]?=some n)(hg:glob sc n=true):PS X (.Raise (some (.Call (.Name n p1) [.Constant (.str y) k p2] [] p3)) none p4) (tX X.K G E H0 zE (.rais c)):=by
 obtain⟨k1,k2,_⟩:=d80 hg;obtain⟨m1,m2⟩:=x.cls c n hc;refine PS.imp (D21 x.can x.calm (x.glb n k1) m1 m2 (e00 I91 r50) k2 rfl rfl) λD σ H q=>?_;obtain⟨zA,ow,ρ,z,rr,rw,st,ee,po⟩:=q;cases ee;exact⟨by show 1<=sizeLine;decide,λe hn=>po e H rw.ext (a32 rw.zok st) hn⟩
end
section
variable {K:Á}{H0 H H':Hp}{zE zA:Option Æ}{ow:Nat->Option Æ}{ρ:Env}{σ:L2.St}
theorem g50(e:ow0 ow i j=some a):j≠i/\ow j=some a:=by
 unfold ow0 at e;split at e
 ·cases e
 ·rename_i n;exact⟨n,e⟩
theorem s70:ow0 ow i i=none:=if_pos rfl
theorem b51(h:j≠i):ow0 ow i j=ow j:=if_neg h
theorem G81{ρ:Env}{j:Nat}{s:S}(h:(N90 ρ)[j]?=some (some s)):ρ[j]?=some (some s)/\s≠.z:=by
 unfold N90 at h;rw[à] at h;obtain⟨o,e1,e2⟩:=È.mp h;cases o with
 |none=>cases e2
 |some t =>
  cases t with
  |z=>cases e2
  |d x=>cases e2;exact⟨e1,λh=>nomatch h⟩
  |fr x=>cases e2;exact⟨e1,λh=>nomatch h⟩
  |ks x=>cases e2;exact⟨e1,λh=>nomatch h⟩
theorem U51{j:Nat}(h:ρ[j]?=some (some (.fr xs))):(N90 ρ)[j]?=some (some (.fr xs)):=by
 unfold N90;rw[à,h];rfl
theorem RW.M02(r:RW K H0 none zA ow H ρ σ){i:Nat}(x:Ext zA H H')(hn:H a=none)(za:zA≠some a)(hl:H' a=some (.lst ys)) :
  RW K H0 none (some a) (ow0 ow i) H' ((N90 ρ).set i (some .z)) (σ.set i (some (.ref a)))/\a30 (hw ow (hz zA H)) (hw (ow0 ow i) (hz (some a) H')):=by
 have r':=r.mono x;have old:∀ j b,ow j=some b->b≠a:=λj b e q=>by
  obtain⟨zs,h1⟩:=r.lst j b e;rw[q,hn] at h1;cases h1
 have sm:a30 (hw ow (hz zA H)) (hw (ow0 ow i) (hz (some a) H')):=λb o e=>by
  obtain⟨e1,e2⟩:=B10 e;have hb:b≠a:=λq=>by
   have e3:H b=some o:=(p00 e1).1;rw[q,hn] at e3;cases e3
  exact g80 (d20 (p00 (x b o e1)).1 (λq=>by cases q;exact hb rfl) (p60 e1)) λj q=>e2 j (g50 q).2
 have dl:(N90 ρ).length=ρ.length:=by unfold N90;rw[Ç]
 refine⟨⟨by rw[Ã8,Ã8,dl];exact r.len,λj k b h1 h2=>r.inj j k b (g50 h1).2 (g50 h2).2,λj b h1 q=>?_,λj b h1=>?_,λj s e=>?_,r'.ext,.inr ⟨rfl,λb q=>?_⟩,λj b h1=>r.new j b (g50 h1).2⟩,sm⟩
 ·cases q;exact old j _ (g50 h1).2 rfl
 ·obtain⟨n,h2⟩:=g50 h1;obtain⟨xs,h3⟩:=r.own j b h2;exact⟨xs,by rw[ê (Á0 n)];exact U51 h3⟩
 ·rcases getElem?_set' e with ⟨rfl,e1,hlt⟩ | ⟨n,e1⟩
  ·cases e1;exact⟨.ref a,ñ (by rw[← r.len,← dl];exact hlt),s70,a,rfl,rfl⟩
  ·obtain⟨e1,nz⟩:=G81 e1;obtain⟨w,h1,h2⟩:=r.wor j s e1;refine⟨w,by rw[ê (Á0 n)];exact h1,?_⟩
   cases s with
   |d y=>exact⟨by rw[b51 n];exact h2.1,h2.2.same sm⟩|z=>exact absurd rfl nz|ks l=>obtain⟨n0,d,q,k⟩:=h2;exact⟨by rw[b51 n];exact n0,d,q,k.same sm⟩
   |fr xs =>
    obtain⟨b,zs,k1,rfl,k3,k4⟩:=h2;exact⟨b,zs,by rw[b51 n];exact k1,rfl,x.at k3 (r.zne j b k1),k4.same sm⟩
 ·cases q;exact(r.young hn za).1
theorem RW.plain(r:RW K H0 zE zA ow H ρ σ)(i:Nat):RW K H0 zE zA (ow0 ow i) H (ρ.set i ((ρ[i]?.getD none).map plS)) σ:=by
 have sm:=o40 (H:=hz zA H) ow i;refine⟨by rw[Ã8];exact r.len,λj k b h1 h2=>r.inj j k b (g50 h1).2 (g50 h2).2,λj b h1=>r.zne j b (g50 h1).2,λj b h1=>?_,λj s e=>?_,r.ext,r.zok,λj b h1=>r.new j b (g50 h1).2⟩
 ·obtain⟨n,h2⟩:=g50 h1;obtain⟨xs,h3⟩:=r.own j b h2;exact⟨xs,by rw[ê (Á0 n)];exact h3⟩
 ·rcases getElem?_set' e with ⟨rfl,e1,hlt⟩ | ⟨n,e1⟩
  ·cases hs:ρ[j]? with
   |none=>rw[hs] at e1;cases e1
   |some o =>
    rw[hs] at e1;cases o with
    |none=>cases e1
    |some s0 =>
     cases e1;obtain⟨w,h1,h2⟩:=r.wor j s0 hs;refine⟨w,h1,?_⟩;cases s0 with
     |d y=>exact⟨s70,h2.2.same sm⟩|z=>exact⟨s70,h2.2⟩|ks l=>obtain⟨_,d,q,k⟩:=h2;exact⟨s70,d,q,k.same sm⟩
     |fr xs =>
      obtain⟨b,zs,k1,rfl,k3,k4⟩:=h2;refine⟨s70,Hd.lst (g80 (d20 k3 (r.zne j b k1)) λk q=>?_) (k4.same sm)⟩;obtain⟨q1,q2⟩:=g50 q;exact q1 (r.inj k j b q2 k1)
  ·obtain⟨w,h1,h2⟩:=r.wor j s e1;exact⟨w,h1,h2.move (b51 n) sm λ_ _=>rfl⟩
end
theorem HdA.eraseIdx{K:Á}{H:Hp}:∀ {ds:List D}{vs:List V} (n:Nat),HdA K H ds vs->HdA K H (ds.eraseIdx n) (vs.eraseIdx n)
 |[],_,n,h=>by rw[h.e30];exact .nil
 |d::ds,_,0,h=>by
  obtain⟨x,r,rfl,h1,h2⟩:=h.b90;exact h2
 |d::ds,_,n + 1,h=>by
  obtain⟨x,r,rfl,h1,h2⟩:=h.b90;exact .cons h1 (HdA.eraseIdx n h2)
section
variable {lm:Bool}{X:Cx}{G:Gs}{E:XK}{N:List Str}{sc:ú}{cn:List Str}{H0:Hp}{zE:Option Æ}
theorem t31{α β:Type}{R:α->β->Prop}{a:α}{vs:List β}(h:Ä3 R [a] vs):∃ v,vs=[v]/\R a v:=by
 cases h with
 |cons h1 h2=>cases h2;exact⟨_,rfl,h1⟩
theorem d50.a40(st:d50 zA z H)(n:zA≠some a)(h:H a=some (.lst xs)):d50 zA z (upd H a o):=by
 refine⟨?_,λp hp=>Tab.upd (st.tab p hp) h⟩;have st:=st.zat;cases zA with
 |none=>cases z <;> exact st
 |some b =>
  cases z with
  |none=>exact st
  |some p =>
   have hb:b≠a:=λq=>n (by rw[q])
   exact(L2.a40 hb).trans st
theorem t41(h:ownAt ρ i=some xs):ρ[i]?=some (some (.fr xs)):=by
 unfold ownAt at h;split at h
 ·rename_i h1;cases h;exact h1
 ·cases h
theorem U61{K:Á}{zA:Option Æ}{H0 H:Hp}{s:S}{v:V}{x:D}(h:RvS K zA H0 H s v)(e:plD s=some x):Hd K (hz zA H) x v:=h.pl.d_ e
theorem A22(x:XS lm X G E N sc cn){i:Nat}{n:Str}{e:Ex}{v:Ñ}{p apos cpos pos:Pos}(h1:N[i]?=some n)(h2:c20 n=true)(ns:noStar v=true)(g:a90 X G E e v)(hl:(apos.endLine == cpos.line)=true) :
  PS X (.Expr (.Call (.Attribute (.Name n p) "append" apos) [v] [] cpos) pos) (tX X.K G E H0 zE (.app i e)):=by
 unfold c20 at h2;simp only[Â,î] at h2;have ga:Good X G E (.cons e .nil) [v]:=⟨v,[],rfl,ns,g,rfl,rfl⟩;have hs:=c90 ns [] X.env;refine PS.imp (S40 (O11 Ð0 Û3 Û2 M90 (m50 (i:=i) (by rw[x.hN];exact h1) (x.vis n (ì h1)) h2.1 h2.2) (ga.args rfl).1 rfl (by rw[hs];rfl) hl hs rfl) (s60 rfl none)) λD σ H q=>?_
 obtain⟨zA,ow,ρ,z,rr,rw,st,ee,po⟩:=q;obtain⟨xs,hx,e1⟩:=M.a20 ee;have ho:=t41 hx;obtain⟨w,k1,a,ys,k2,rfl,k3,k4⟩:=rw.wor i _ ho;refine⟨_,k1,.inl ⟨rfl,ys,SqL.of k3⟩,?_⟩;have e2:M.bind (ev G.F (.cons e .nil) ρ) (λm=>M.bind (M.of (pl m)) λx=>if bare x=true/\xs.length < most then M.ret (O.nx (ρ.set i (some (.fr (xs++[x]))))) else M.no) z=some rr∨∃ c z1,ev G.F e ρ z=some (.er c z1)/\rr=.er c z1:=by
  rcases M.bind_some e1 with ⟨l,z1,e3,e4⟩ | ⟨c,z1,e3,e4⟩
  ·obtain⟨y,hy,e5⟩:=M.a20 e4;obtain⟨s,rfl,hs⟩:=e90 hy;refine .inl ?_;show M.bind (M.bind (ev G.F e ρ) λx=>M.bind (M.of (one x)) λs=>M.bind (ev G.F .nil ρ) λy=>M.ret (s::y)) _ z=some rr;have b:∀ {α β:Type}{m:M α}{f:α->M β}{z:Z}{a:α}{z1:Z},m z=some (.ok a z1)->M.bind m f z=f a z1:=λh=>by unfold M.bind;rw[h]
   rw[b (a:=[s]) (z1:=z1) (by rw[b e3];rfl)]
   show M.bind (M.of (pl _)) _ _=_;rw[hy];exact e5
  ·exact .inr ⟨c,z1,e3,e4⟩
 rcases e2 with e2 | ⟨c,z1,e3,rfl⟩
 ·refine h91 rw.S20 st e2 (po.ers rw) λl z1 e3 vs H1 x1 st1 rvs=>?_;obtain⟨y,hy,e5⟩:=M.a20 e3;obtain⟨s,rfl,hs⟩:=e90 hy;split at e5
  ·rename_i hb;cases e5;obtain⟨u,rfl,ru⟩:=t31 rvs;have r1:=rw.mono x1;have k3':=x1.at k3 (rw.zne i a k2);have k4':HdA X.K (hw ow (hz zA H1)) xs ys:=k4.same (d10 x1);have hd:=J70 r1.L11 hb.1 (U61 ru hs);refine⟨a,ys,u,rfl,rfl,k3',Ø (by rw[k4.length];exact hb.2) (e40 (Ì _)),?_⟩
   refine po zA ow σ _ (r1.upd k2 (k4'.append (.cons hd .nil))) ?_ (a30.trans (d10 x1) (V60 k2));exact st1.a40 (rw.zne i a k2) k3'
  ·cases e5
 ·refine⟨zA,ρ,z,.er c z1,rw.S20,st,?_,po.er_ rw⟩;show M.bind (ev G.F e ρ) _ z=_;simp only[M.bind,e3]
theorem l82(x:XS lm X G E N sc cn){i f:Nat}{as:Ex}{y:Str}{v:Ñ}{px pos:Pos}(hi:N[i]?=some y)(hl:P50 sc y=true)(g:a90 X G E (.call f as) v)(hv:P30 v=true) :
  PS X (.Assign [.Name y px] v pos) (tX X.K G E H0 zE (.newz i f as)):=by
 have L:=x.loc;refine PS.imp (r40 (i:=i) (by rw[x.hN];exact x.nd) (by rw[x.hN];exact hi) (L.lc y hl) g.pe (s60 hv _) (L.fn y hl)) λD σ H q=>?_
 obtain⟨zA,ow,ρ,z,rr,rw,st,ee,po⟩:=q;refine j50 rw.S20 st ee (po.ers rw) λl z1 e1=>?_;have e2:p71 zE.isNone ρ i l=some rr:=e1;unfold p71 at e2;split at e2
 ·split at e2
  ·rename_i m b hz';cases e2;have zn:zE=none:=by
    cases zE with
    |none=>rfl|some _=>cases hz'
   subst zn;refine⟨_,rfl,λu H1 x1 st1 rv=>?_⟩;obtain⟨a,ys,rfl,k1,k2,k3,k4⟩:=rv;obtain⟨v1,v2,rfl,h3,h4⟩:=k4.two;cases h3.j30;cases h4.bl_;obtain⟨r1,sm⟩:=rw.M02 (i:=i) x1 k1 k2 k3;exact po (some a) _ _ H1 r1 ⟨k3,st1.tab⟩ sm
  ·cases e2
 ·cases e2
theorem l92(x:XS lm X G E N sc cn){i:Nat}{n:Str}{e:Ex}{v:Ñ}{c:Nat}{p q tp pos:Pos}(h1:N[i]?=some n)(h2:c20 n=true)(g:a90 X G E e v) :
  PS X (.Assign [.Subscript (.Name n p) (.Constant (.int 0) c q) tp] v pos) (tX X.K G E H0 zE (.zset i e)):=by
 unfold c20 at h2;simp only[Â,î] at h2;refine PS.imp (J11 g.pe (c02 (m50 (i:=i) (by rw[x.hN];exact h1) (x.vis n (ì h1)) h2.1 h2.2) Y30 set_list (by intro u;rfl)) (show Ð2 v (some (.Subscript (.Name n p) (.Constant (.int 0) c q) tp)) pos.line X.env=pure false from P40 rfl) (by cases v <;> rfl)) λD σ H q=>?_
 obtain⟨zA,ow,ρ,z,rr,rw,st,ee,po⟩:=q;refine j50 rw.S20 st ee (po.ers rw) λl z1 e1=>?_;obtain⟨y,hy,e2⟩:=M.a20 e1;obtain⟨dy,hy1,hy2⟩:=Í.mp hy;obtain⟨s,rfl,hs⟩:=e90 hy1;refine⟨s,rfl,λu H1 x1 st1 rv=>?_⟩;have e3:p81 ρ y ρ[i]? z1=some rr:=e2;unfold p81 at e3;split at e3
 ·rename_i p' hsl;cases e3;have r1:=rw.mono x1;obtain⟨w,k1,k2,a,rfl,rfl⟩:=r1.wor i .z hsl;have hu:u=.int y:=by
   have:=U61 rv hs;cases dy <;> first | (cases hy2;exact this.j30) | (cases hy2;done)
  subst hu;have st':H1 a=some (.lst [.int p'.1,.bl p'.2]):=st1.zat;refine⟨_,k1,a,[.int p'.1,.bl p'.2],0,0,rfl,rfl,st',rfl,?_⟩;have x2:Ext (some a) H1 (upd H1 a (.lst [.int y,.bl p'.2])):=by
   refine⟨λb o h=>?_,λb ps h=>⟨ps,by rw[a40 (λz=>by rw[z,st'] at h;cases h)];exact h⟩⟩
   obtain⟨h3,h4⟩:=p00 h;exact d20 (by rw[a40 (λz=>h4 (by rw[z]))];exact h3) h4 (p60 h)
  exact po (some a) ow σ _ (r1.mono x2) ⟨b20,λp hp=>Tab.upd (st1.tab p hp) st'⟩ (a30.trans (d10 x1.same) (d10 x2.same))
 ·cases e3
theorem A32(x:XS lm X G E N sc cn)(g:a90 X G E c ce)(hn:∀ t a b p,ce≠.IfExp t a b p)(hb:PSs X body (tX X.K G E H0 zE b)):PS X (.While ce body [] pos) (tX X.K G E H0 zE (.whl c b)):=by
 refine PS.imp (z81 x.own (g.pt hn) hb) λD σ H q=>?_;obtain⟨zA,ow,ρ,z,rr,rw,st,ee,po⟩:=q;refine⟨λm σ H=>∃ zA ow ρ z r,RW X.K H0 zE zA ow H ρ σ/\d50 zA z H/\K11 (ev G.F c) (ex G.F zE.isNone b) m ρ z=some r/\p10 X.K G E H0 zE (hw ow (hz zA H)) D r,⟨Z91,zA,ow,ρ,z,rr,rw,st,ee,po⟩,?_⟩;rintro m σ H ⟨zA,ow,ρ,z,rr,rw,st,ee,po⟩;cases m with
 |zero=>cases ee
 |succ m =>
  refine O60 rw.S20 st ee (po.ers rw) λk z1 e1 H1 x1 st1=>?_;have r1:=rw.mono x1;have sm:a30 (hw ow (hz zA H)) (hw ow (hz zA H1)):=d10 x1;cases k with
  |false =>
   cases e1;exact po zA ow σ H1 r1 st1 sm
  |true =>
   rw[if_pos rfl];have e2:M.bind (ex G.F zE.isNone b ρ) (λo=>match o with | .nx ρ=>K11 (ev G.F c) (ex G.F zE.isNone b) m ρ | .rt s=>M.ret (.rt s)) z1=some rr:=e1
   refine⟨λσ' H'=>∃ zA ow ρ z r,RW X.K H0 zE zA ow H' ρ σ'/\d50 zA z H'/\K11 (ev G.F c) (ex G.F zE.isNone b) m ρ z=some r/\p10 X.K G E H0 zE (hw ow (hz zA H')) D r,λσ' H' h=>⟨m,Ú1 m,h⟩,?_⟩;rcases M.bind_some e2 with ⟨o,z2,e3,e4⟩ | ⟨k,z2,e3,e4⟩
   ·refine⟨zA,ow,ρ,z1,_,r1,st1,e3,?_⟩;cases o with
    |nx ρ1=>exact λzA' ow' σ' H' rw' st' sm'=>⟨zA',ow',ρ1,z2,rr,rw',st',e4,po.mono (a30.trans sm sm')⟩|rt s=>cases e4;exact po
   ·subst e4;exact⟨zA,ow,ρ,z1,_,r1,st1,e3,po⟩
theorem U71{i j:Nat}{e:Ex}{D:Ends}{σ:L2.St}{H:Hp}{zA:Option Æ}{ow:Nat->Option Æ}{ρ:Env}{z:Z}{rr:R O}(rw:RW X.K H0 zE zA ow H ρ σ)(st:d50 zA z H)(ee:g22 G.F i j e ρ z=some rr)(po:p10 X.K G E H0 zE (hw ow (hz zA H)) D rr) :
  b62 (tBM X.K "list" l81 (Z31 i) (d02 (tBM X.K "list" J61 (Z31 j) (tA X.K G E (.cons e .nil))) C82)) D σ H:=by
 obtain⟨xs,hx,e1⟩:=M.a20 ee;obtain⟨ys,hy,e1⟩:=M.a20 e1;have ho:=t41 hx;have hp:=t41 hy;obtain⟨w,k1,a,us,k2,rfl,k3,k4⟩:=rw.wor i _ ho;obtain⟨w',m1,b,ws,m2,rfl,m3,m4⟩:=rw.wor j _ hp;refine⟨_,k1,.inl ⟨rfl,us,SqL.of k3⟩,⟨_,m1,.inl ⟨rfl,ws,SqL.of m3⟩,?_⟩⟩;rcases M.bind_some e1 with ⟨l,z1,e3,e4⟩ | ⟨c,z1,e3,e4⟩
 ·obtain⟨k,hk,e5⟩:=M.a20 e4;obtain⟨dk,hk1,hk2⟩:=Í.mp hk;obtain⟨s,rfl,hs⟩:=e90 hk1;obtain⟨o,hv,e6⟩:=M.a20 e5;cases e6;refine⟨zA,ρ,z,.ok [s] z1,rw.S20,st,?_,λvs H1 x1 st1 rvs=>?_⟩
  ·show M.bind (ev G.F e ρ) _ z=_;simp only[M.bind,e3,M.of,one,M.ret,ev]
  obtain⟨u,rfl,ru⟩:=t31 rvs;have hu:u=.int k:=by
   have:=U61 ru hs;cases dk <;> first | (cases hk2;exact this.j30) | (cases hk2;done)
  subst hu;unfold p61 at hv;split at hv
  ·rename_i hb;have hkk:=A10.mp hb.2.2.1;obtain⟨y,hy1,hv⟩:=Í.mp hv;split at hv
   ·rename_i hby;cases hv;have r1:=rw.mono x1;have m4':HdA X.K (hw ow (hz zA H1)) ys ws:=m4.same (d10 x1);have k4':HdA X.K (hw ow (hz zA H1)) xs us:=k4.same (d10 x1);obtain⟨yv,g1,g2⟩:=m4'.get hy1;have hlt:k.toNat < ws.length:=(Û.mp g1).1;have hab:a≠b:=λq=>hb.1 (rw.inj i j a k2 (by rw[q];exact m2))
    refine⟨b,ws,k,k.toNat,yv,rfl,rfl,x1.at m3 (rw.zne j b m2),by omega,by omega,?_,g1,?_⟩
    ·have h0:(0:Int)<=k:=hb.2.1;exact Ü8 h0 ∅
    ·have r2:=r1.upd m2 (m4'.eraseIdx k.toNat);have sm2:=V60 (H:=H1) (zA:=zA) (o:=.lst (ws.eraseIdx k.toNat)) m2;refine⟨a,us,yv,rfl,rfl,?_,?_,?_⟩
     ·rw[a40 hab];exact x1.at k3 (rw.zne i a k2)
     ·exact Ø (by rw[k4.length];exact hb.2.2.2) (e40 (Ì _))
     ·exact po zA ow σ _ (r2.upd k2 ((k4'.same sm2).append (.cons (g2.same sm2) .nil))) ((st1.a40 (rw.zne j b m2) (x1.at m3 (rw.zne j b m2))).a40 (rw.zne i a k2) (by rw[a40 hab];exact x1.at k3 (rw.zne i a k2))) (a30.trans (d10 x1) (a30.trans sm2 (V60 k2)))
   ·cases hv
  ·cases hv
 ·subst e4;refine⟨zA,ρ,z,.er c z1,rw.S20,st,?_,po.er_ rw⟩;show M.bind (ev G.F e ρ) _ z=_;simp only[M.bind,e3]
theorem m02(x:XS lm X G E N sc cn){i j:Nat}{n m:Str}{e:Ex}{v:Ñ}{p p' apos cpos apos' cpos' pos:Pos}(h1:N[i]?=some n)(h2:c20 n=true)(h3:N[j]?=some m)(h4:c20 m=true)(ns:noStar v=true)(g:a90 X G E e v)(hl:(apos.endLine == cpos.line)=true)(hl':(apos'.endLine == cpos'.line)=true) :
  PS X (.Expr (.Call (.Attribute (.Name n p) "append" apos) [.Call (.Attribute (.Name m p') "pop" apos') [v] [] cpos'] [] cpos) pos) (tX X.K G E H0 zE (.apop i j e)):=by
 unfold c20 at h2 h4;simp only[Â,î] at h2 h4;have ga:Good X G E (.cons e .nil) [v]:=⟨v,[],rfl,ns,g,rfl,rfl⟩;have hs:=c90 ns [] X.env;refine PS.imp (S40 (O11 Ð0 Û3 Û2 M90 (m50 (i:=i) (by rw[x.hN];exact h1) (x.vis n (ì h1)) h2.1 h2.2)
  (e00 (O11 Ð0 PySem.F.slot_list_pop PySem.F.type_list_pop A71 (m50 (i:=j) (by rw[x.hN];exact h3) (x.vis m (ì h3)) h4.1 h4.2) (ga.args rfl).1 rfl (by rw[hs];rfl) hl' hs rfl) r50) rfl rfl hl rfl rfl) (s60 rfl none)) λD σ H q=>?_
 obtain⟨zA,ow,ρ,z,rr,rw,st,ee,po⟩:=q;exact U71 rw st ee po
def A42(K:Á)(i:Nat):TI:=λσ H R=>∃ a,σ[i]?=some (some (.ref a))/\((∃ ys,SqT K H a ys)/\R (Itt K a) H∨(∃ ys,SqL K H a ys)/\R (Itl K a) H)
theorem m12(x:XI lm X G E N sc){tg:Ñ}{i:Nat}{n:Str}{pos:Pos}(h1:N[i]?=some n)(h2:c20 n=true):PI X tg (.Name n pos) (A42 X.K i):=by
 unfold c20 at h2;simp only[Â,î] at h2;have hv:PE X (.Name n pos) (Z31 i):=m50 (i:=i) (by rw[x.hN];exact h1) (x.vis n (ì h1)) h2.1 h2.2
 intro pins s σ H R I q;obtain⟨a,k,q | q⟩:=q
 ·exact J21 hv pins s σ H R I ⟨_,k,a,rfl,q.1,q.2⟩
 ·exact S60 hv pins s σ H R I ⟨_,k,a,rfl,q.1,q.2⟩
def fBody(F:FT)(tp:Bool)(p:Pat)(b:Sm):D->Env->M O:=λx ρ=>M.bind (M.of (f20 p x ρ)) λρ=>ex F tp b ρ
theorem B30:∀ {l:List D}{d:D},i70 l=true->d∈l->bare d=true
 |x::r,d,h,hd=>by
  simp only[i70,Â] at h;rcases è.mp hd with rfl | hd
  ·exact h.1
  ·exact B30 h.2 hd
theorem b61{p:Pat}{b:Sm}{J:L2.It}{xs:List D}{B:Hp}{D:Ends}{σ:L2.St}{H:Hp}{zA:Option Æ}{ow:Nat->Option Æ}{ρ:Env}{z:Z}{rr:R O}(IT:ItB X.K J xs B)
  (rw:RW X.K H0 zE zA ow H ρ σ) (st:d50 zA z H) (sm:a30 B (hw ow (hz zA H))) (ee:S10 (fBody G.F zE.isNone p b) xs ρ z=some rr) (po:p10 X.K G E H0 zE (hw ow (hz zA H)) D rr) :
  ∃ W:Nat->Nat->L2.St->Hp->Prop,(∃ m,W 0 m σ H)/\∀ i m σ H,W i m σ H ->
   (J.stop i H/\D.nx σ H)∨(J.go i H/\∃ Nn:L2.St->Hp->Prop,(∀ σ' H',Nn σ' H'->∃ m',m' < m/\W (i + 1) m' σ' H')/\∀ x H',J.yld i H x H'->gP X.K p x σ H' λσ2 H2=>tX X.K G E H0 zE b { D with nx:=Nn,ct:=Nn,bk:=D.nx } σ2 H2):=by
 refine⟨λi m σ H=>m=xs.length - i/\i<=xs.length/\∃ zA ow ρ z r,RW X.K H0 zE zA ow H ρ σ/\d50 zA z H/\a30 B (hw ow (hz zA H))/\S10 (fBody G.F zE.isNone p b) (xs.drop i) ρ z=some r/\p10 X.K G E H0 zE (hw ow (hz zA H)) D r,
  ⟨xs.length,by simp,Æ6 _,zA,ow,ρ,z,rr,rw,st,sm,by simpa using ee,po⟩,?_⟩
 rintro i m σ H ⟨rfl,hi,zA,ow,ρ,z,rr,rw,st,sm,ee,po⟩;have sH:a30 B H:=a30.trans sm (a30.trans g40 (a10 zA H));by_cases hlt:i < xs.length
 ·refine .inr ⟨IT.go i H sH hlt,λσ' H'=>∃ zA ow ρ z r,RW X.K H0 zE zA ow H' ρ σ'/\d50 zA z H'/\a30 B (hw ow (hz zA H'))/\S10 (fBody G.F zE.isNone p b) (xs.drop (i + 1)) ρ z=some r/\p10 X.K G E H0 zE (hw ow (hz zA H')) D r,
   λσ' H' h=>⟨xs.length - (i + 1),by omega,rfl,hlt,h⟩,λx H' y=>?_⟩
  have hd0:xs[i]?=some xs[i]:=Ù hlt;obtain⟨s1,hd⟩:=IT.yld i H x H' zA z _ (a30.trans sm g40) st y hd0;rw[Ü6 hlt] at ee;have e0:M.bind (fBody G.F zE.isNone p b xs[i] ρ) (λo=>match o with | .nx ρ=>S10 (fBody G.F zE.isNone p b) (xs.drop (i + 1)) ρ | .rt s=>M.ret (.rt s)) z=some rr:=ee
  have r1:=rw.mono (Ext.of s1);have st1:=st.same s1;have sm1:a30 (hw ow (hz zA H)) (hw ow (hz zA H')):=d10 (j40 s1);have hd1:=hd (hw ow (hz zA H')) (a30.trans sm sm1) λ_ _ q=>b41 q r1.L11;have fin:∀ {ρ1:Env}{o:O}{z1:Z},f20 p xs[i] ρ=some ρ1->ex G.F zE.isNone b ρ1 z=some (.ok o z1)->(match o with | .nx ρ=>S10 (fBody G.F zE.isNone p b) (xs.drop (i + 1)) ρ | .rt s=>M.ret (.rt s)) z1=some rr->gP X.K p x σ H' λσ2 H2=>tX X.K G E H0 zE b { D with nx:=λσ' H'=>∃ zA ow ρ z r,RW X.K H0 zE zA ow H' ρ σ'/\d50 zA z H'/\a30 B (hw ow (hz zA H'))/\S10 (fBody G.F zE.isNone p b) (xs.drop (i + 1)) ρ z=some r/\p10 X.K G E H0 zE (hw ow (hz zA H')) D r,ct:=λσ' H'=>∃ zA ow ρ z r,RW X.K H0 zE zA ow H' ρ σ'/\d50 zA z H'/\a30 B (hw ow (hz zA H'))/\S10 (fBody G.F zE.isNone p b) (xs.drop (i + 1)) ρ z=some r/\p10 X.K G E H0 zE (hw ow (hz zA H')) D r,bk:=D.nx } σ2 H2:=λ{ρ1 o z1} hbp e1 e2=>by
   refine G41 hbp r1 hd1 λow' σ' r2 sm2=>⟨zA,ow',ρ1,z,_,r2,st1,e1,?_⟩;cases o with
   |nx ρ2=>exact λzA3 ow3 σ3 H3 r3 st3 sm3=>⟨zA3,ow3,ρ2,z1,rr,r3,st3,a30.trans sm (a30.trans sm1 (a30.trans sm2 sm3)),e2,po.mono (a30.trans sm1 (a30.trans sm2 sm3))⟩|rt s=>cases e2;exact po
  rcases M.bind_some e0 with ⟨o,z1,e1,e2⟩ | ⟨c,z1,e1,e2⟩
  ·obtain⟨ρ1,hbp,e3⟩:=M.a20 e1;exact fin hbp e3 e2
  ·subst e2;obtain⟨ρ1,hbp,e3⟩:=M.a20 e1;exact G41 hbp r1 hd1 λow' σ' r2 sm2=>⟨zA,ow',ρ1,z,_,r2,st1,e3,po⟩
 ·have e:i=xs.length:=by omega
  subst e;rw[drop_length] at ee;cases ee;exact .inl ⟨IT.stop H sH,po zA ow σ H rw st (a30.refl _)⟩
theorem m22(x:XS lm X G E N sc cn){p:Pat}{i:Nat}{n:Str}{b:Sm}{tg:Ñ}{body:List Å0}{np pos:Pos}(hp:i80 N (P50 sc) p tg=true)(h1:N[i]?=some n)(h2:c20 n=true)(hb:PSs X body (tX X.K G E H0 zE b)) :
  PS X (.For tg (.Name n np) body [] pos) (tX X.K G E H0 zE (.fr p .seq (.cons (.var i) .nil) b)):=by
 refine PS.imp (J31 x.own x.calm (m12 x.toXI h1 h2) (r31 x.loc hp) hb (λ_=>rfl)) λD σ H q=>?_;obtain⟨zA,ow,ρ,z,rr,rw,st,ee,po⟩:=q;have e0:M.bind (M.bind (match ρ[i]? with | some (some s)=>M.ret [plS s] | _=>M.no) λx=>M.bind (M.of (one x)) λs=>M.bind (ev G.F .nil ρ) λy=>M.ret (s::y)) (λl=>M.bind (M.of ((plA l).bind (itD .seq))) λxs=>S10 (fBody G.F zE.isNone p b) xs (p51 .seq (.cons (.var i) .nil) l ρ)) z=some rr:=ee
 cases hs:ρ[i]? with
 |none=>rw[hs] at e0;cases e0
 |some o =>
  cases o with
  |none=>rw[hs] at e0;cases e0
  |some s =>
   rw[hs] at e0;have e1:M.bind (M.of ((plA [plS s]).bind (itD .seq))) (λxs=>S10 (fBody G.F zE.isNone p b) xs ((ρ.set i ((ρ[i]?.getD none).map plS)).map (D10 (O10 [plS s])))) z=some rr:=e0;obtain⟨xs,hx,e2⟩:=M.a20 e1;have r1:=rw.plain i;have sm:=o40 (H:=hz zA H) ow i;have hi:i < ρ.length:=(Û.mp hs).1;have hsl:(ρ.set i ((ρ[i]?.getD none).map plS))[i]?=some (some (plS s)):=by rw[ñ hi,hs];rfl
   obtain⟨w,k1,k2⟩:=r1.wor i _ hsl;obtain⟨ds,h3,h4⟩:=Í.mp hx;obtain⟨d,rfl,h5⟩:=r81 h3;have hd:Hd X.K (hw (ow0 ow i) (hz zA H)) d w:=by
    cases s with
    |d y=>cases h5;exact k2.2
    |fr ys=>cases h5;exact k2.2
    |_=>cases h5
   obtain⟨ow',r2,sm2⟩:∃ ow',RW X.K H0 zE zA ow' H ((ρ.set i ((ρ[i]?.getD none).map plS)).map (D10 (O10 [plS s]))) σ/\a30 (hw (ow0 ow i) (hz zA H)) (hw ow' (hz zA H)):=by
    rw[O00];cases O10 [plS s] with
    |true=>exact⟨_,r1,a30.refl _⟩|false=>exact⟨_,r1.U00,B20 _⟩
   cases d with
   |tup l =>
    cases h4;obtain⟨a,ys,rfl,m1,m2⟩:=hd.y20;exact⟨a,k1,.inl ⟨⟨ys,(a10 zA H).sqT (a30.sqT g40 m1)⟩,b61 (r51 m1 m2) r2 st sm2 e2 (po.mono (a30.trans sm sm2))⟩⟩
   |lst l =>
    cases h4;obtain⟨a,ys,rfl,m1,m2⟩:=hd.a01;exact⟨a,k1,.inr ⟨⟨ys,((m1.same g40).same (a10 zA H)).sq⟩,b61 (b11 m1 m2) r2 st sm2 e2 (po.mono (a30.trans sm sm2))⟩⟩
   |_=>cases h4
theorem A52(x:XS lm X G E N sc cn){p:Pat}{it:It}{src:Ex}{b:Sm}{tg iter:Ñ}{body:List Å0}{pos:Pos}(hp:i80 N (P50 sc) p tg=true)(hi:PI X tg iter (tIt X.K G E it src))(hns:s30 iter=true)(hv:R21 it src=none)(hb:PSs X body (tX X.K G E H0 zE b)) :
  PS X (.For tg iter body [] pos) (tX X.K G E H0 zE (.fr p it src b)):=by
 refine PS.imp (J31 x.own x.calm hi (r31 x.loc hp) hb (V50 hns X.env)) λD σ H q=>?_;obtain⟨zA,ow,ρ,z,rr,rw,st,ee,po⟩:=q;have e0:M.bind (ev G.F src ρ) (λl=>M.bind (M.of ((plA l).bind (itD it))) λxs=>S10 (fBody G.F zE.isNone p b) xs ((O20 it src l ρ).map (D10 (O10 l)))) z=some rr:=ee;rcases M.bind_some e0 with ⟨l,z1,e1,e2⟩ | ⟨c,z1,e1,e2⟩
 ·obtain⟨xs,hx,e3⟩:=M.a20 e2;refine⟨zA,ρ,z,_,rw.S20,st,e1,xs,hx,λJ H1 x1 st1 IT=>?_⟩;have r1:=rw.mono x1;have frz:S10 (fBody G.F zE.isNone p b) xs (U00 ρ) z1=some rr->_:=λe3=>b61 (G:=G) (E:=E) (D:=D) (IT (λ_=>True) (hz zA H1) (a30.refl _) (λ_ _ q=>q) (λ_ _ _ q=>q) (λds hds d hd=>by cases d <;> first | trivial | exact λ_ _=>trivial) λ_ _ q _=>q) r1.U00 st1 (by rw[m80];exact a30.refl _) e3 (po.mono (a30.trans (d10 x1) (B20 ow)))
  rw[O00] at e3;have he:O20 it src l ρ=match j51 l with | true=>U00 ρ | false=>ρ:=by
   unfold O20;rw[hv] <;> cases j51 l <;> rfl
  have tt:U00 (U00 ρ)=U00 ρ:=by
   unfold U00;rw[Á7];refine Å8 λo _=>?_
   match o with
   |none=>rfl|some (.d _)=>rfl|some (.fr _)=>rfl|some .z=>rfl|some (.ks _)=>rfl
  cases hl:j51 l with
  |true =>
   rw[hl] at he;rw[he] at e3;dsimp only at e3;rw[tt,ite_self] at e3;exact frz e3
  |false =>
   rw[hl] at he;rw[he] at e3;dsimp only at e3;split at e3
   ·rename_i hbb;refine b61 (IT (λy=>bare y=true) (hw ow (hz zA H1)) g40 (λa ys q=>b41 q r1.L11) (λd v hd q=>J70 r1.L11 hd q) (λds hds d hd=>?_) λa ys q hor=>?_) r1 st1 (a30.refl _) e3 (po.mono (d10 x1))
    ·have h:=hbb;unfold O10 at h;rw[hds] at h;have:=â.mp h d hd;cases d with
     |tup m=>exact λy hy=>B30 this hy|lst m=>exact λy hy=>B30 this hy|_=>trivial
    ·rcases hor with ⟨hn,hm1⟩ | hm
     ·refine p50.of (g80 (d20 hm1 (st.a21 hn)) λj w=>?_);obtain⟨zs,k⟩:=rw.lst j a w;rw[hn] at k;cases k
     ·rw[hl] at hm;cases hm
   ·exact frz e3
 ·subst e2;exact⟨zA,ρ,z,_,rw.S20,st,e1,po.er_ rw⟩
end
def isQ:Sm->Bool
 |.nil=>true|.seq _ _=>true|_=>false
def U81:Ñ->Bool
 |.IfExp ..=>false|_=>true
def M12:Ñ->Bool
 |.SetComp ..=>false|.DictComp ..=>false|_=>true
def mtI(lm:Bool)(fns:List (Str × List Str))(nums:List (Str × Int))(it:It)(src:Ex)(sc:ú)(N:List Str)(tg iter:Ñ):Bool:=match it with
 |.seq=>mt lm fns nums src sc N [iter]|.rng1=>opt (x32 iter) λr=>r.1.1 == ("range":Str)&&glob sc r.1.1&&mt lm fns nums src sc N [r.1.2.2.1]|.rng2=>opt (a12 iter) λr=>r.1.1 == ("range":Str)&&glob sc r.1.1&&mt lm fns nums src sc N [r.1.2.2.1,r.1.2.2.2.1]|.zip=>opt (a12 iter) λr=>r.1.1 == ("zip":Str)&&glob sc r.1.1&&s40 tg&&mt lm fns nums src sc N [r.1.2.2.1,r.1.2.2.2.1]
def M22:(p:Pat)->Option {q:Nat × Nat // p=.tup (.cons (.v q.1) (.cons (.v q.2) .nil))}
 |.tup (.cons (.v i) (.cons (.v j) .nil))=>some ⟨(i,j),rfl⟩|_=>none
def M32:(e:Ex)->Option {q:Ex × Ex // e=.tup (.cons q.1 (.cons q.2 .nil))}
 |.tup (.cons a (.cons b .nil))=>some ⟨(a,b),rfl⟩|_=>none
def M42:(e:Ñ)->Option {q:Ñ × Ñ × Nat × Pos // e=.Tuple [q.1,q.2.1] q.2.2.1 q.2.2.2}
 |.Tuple [a,b] k p=>some ⟨(a,b,k,p),rfl⟩|_=>none
def M52(sc:ú)(p:Pat)(e:Ex)(tg v:Ñ):Bool:=opt (M22 p) λ_=>opt (M32 e) λ_=>opt (E12 tg) λt=>opt (M42 v) λu =>
  !(t.1.1 == t.1.2.2.1)&&sc.names.lookup t.1.1 == some .local&&sc.names.lookup t.1.2.2.1 == some .local&&t.1.2.2.2.1.line == t.1.2.1.line&&noStar u.1.1&&noStar u.1.2.1&&!([u.1.1,u.1.2.1].all (Ù2 8))&&!([u.1.1,u.1.2.1].all (constantsAlone 8))
def isNm:Ñ->Bool
 |.Name ..=>true|_=>false
def dkB(sc:ú):Ñ->Ñ->Bool
 |.Name y _,.DictComp ..=>sc.names.lookup y == some .cell|_,_=>false
def setB(sc:ú)(p:Pat)(e:Ex)(tg v:Ñ):Bool :=
 if isNm tg then(M12 v || dkB sc tg v) else if s40 tg then(if s40 v then(match v with | .Tuple vs _ _=>vs.all (Ù2 8) | _=>false) || (match tg with | .Tuple ts _ _=>ts.any (t11 λy=>sc.names.lookup y) | _=>false) || M52 sc p e tg v else true) else false
def U91:(e:List Å0)->Option {q:Ñ × Ñ × Pos // e=[.Assign [q.1] q.2.1 q.2.2]}
 |[.Assign [tg] v p]=>some ⟨(tg,v,p),rfl⟩|_=>none
def A62:(e:List Å0)->Option {q:Option Ñ × Pos // e=[.Return q.1 q.2]}
 |[.Return v p]=>some ⟨(v,p),rfl⟩|_=>none
def M62:(e:List Å0)->Option {q:Ñ × List Å0 × List Å0 × Pos // e=[.If q.1 q.2.1 q.2.2.1 q.2.2.2]}
 |[.If c a b p]=>some ⟨(c,a,b,p),rfl⟩|_=>none
def A72:(e:List Å0)->Option {q:Ñ × Ñ × List Å0 × Pos // e=[.For q.1 q.2.1 q.2.2.1 [] q.2.2.2]}
 |[.For tg iter body [] p]=>some ⟨(tg,iter,body,p),rfl⟩|_=>none
def A82:(e:List Å0)->Option {q:Ñ × List Å0 × Pos // e=[.While q.1 q.2.1 [] q.2.2]}
 |[.While c body [] p]=>some ⟨(c,body,p),rfl⟩|_=>none
def m32:(e:List Å0)->Option {q:Ñ × Pos // e=[.Raise (some q.1) none q.2]}
 |[.Raise (some x) none p]=>some ⟨(x,p),rfl⟩|_=>none
def V01:(e:List Å0)->Option {q:Ñ × Pos // e=[.Expr q.1 q.2]}
 |[.Expr v p]=>some ⟨(v,p),rfl⟩|_=>none
def A92:(e:Ñ)->Option {q:Str × Pos × Str × Nat × Pos × Pos // e=.Call (.Name q.1 q.2.1) [.Constant (.str q.2.2.1) q.2.2.2.1 q.2.2.2.2.1] [] q.2.2.2.2.2}
 |.Call (.Name n p1) [.Constant (.str y) k p2] [] p3=>some ⟨(n,p1,y,k,p2,p3),rfl⟩|_=>none
def V11:(e:Ñ)->Option {q:Str × Pos × Str × Pos × Ñ × Pos // e=.Call (.Attribute (.Name q.1 q.2.1) q.2.2.1 q.2.2.2.1) [q.2.2.2.2.1] [] q.2.2.2.2.2}
 |.Call (.Attribute (.Name n p) a ap) [v] [] cp=>some ⟨(n,p,a,ap,v,cp),rfl⟩|_=>none
def M72:(e:Ñ)->Option {q:Str × Pos × Nat × Pos × Pos // e=.Subscript (.Name q.1 q.2.1) (.Constant (.int 0) q.2.2.1 q.2.2.2.1) q.2.2.2.2}
 |.Subscript (.Name n p) (.Constant (.int 0) c q1) tp=>some ⟨(n,p,c,q1,tp),rfl⟩|_=>none
def M82:(e:Ñ)->Option {q:Str × Pos × Ñ × Pos // e=.Subscript (.Name q.1 q.2.1) q.2.2.1 q.2.2.2}
 |.Subscript (.Name n p) w tp=>some ⟨(n,p,w,tp),rfl⟩|_=>none
def M92:(e:Ñ)->Option {q:Str × Pos // e=.Name q.1 q.2}
 |.Name n p=>some ⟨(n,p),rfl⟩|_=>none
def G91:Ex->Bool
 |.con .non=>true|_=>false
def mtS(lm:Bool)(fns:List (Str × List Str))(nums:List (Str × Int))(cn:List Str)(sc:ú)(N:List Str):Sm->List Å0->Bool
 |.nil,ss=>ss.isEmpty|.seq s r,ss=>opt ss.head? λst=>!isQ s&&isQ r&&mtS lm fns nums cn sc N s [st]&&mtS lm fns nums cn sc N r ss.tail|.set p e,ss=>opt (U91 ss) λq=>!isL e&&i80 N (P50 sc) p q.1.1&&mt lm fns nums e sc N [q.1.2.1]&&setB sc p e q.1.1 q.1.2.1
 |.ret e,ss=>opt (A62 ss) λq=>match q.1.1 with
  |some v=>!isL e&&mt lm fns nums e sc N [v]|none=>G91 e
 |.iff c t u,ss=>opt (M62 ss) λq=>!isL c&&U81 q.1.1&&isQ t&&isQ u&&mt lm fns nums c sc N [q.1.1]&&mtS lm fns nums cn sc N t q.1.2.1&&mtS lm fns nums cn sc N u q.1.2.2.1|.fr p it src b,ss=>opt (A72 ss) λq=>i80 N (P50 sc) p q.1.1&&isL src&&s30 q.1.2.1&&isQ b&&mtI lm fns nums it src sc N q.1.1 q.1.2.1&&mtS lm fns nums cn sc N b q.1.2.2.1|.whl c b,ss=>opt (A82 ss) λq=>!isL c&&U81 q.1.1&&isQ b&&mt lm fns nums c sc N [q.1.1]&&mtS lm fns nums cn sc N b q.1.2.1|.rais c,ss=>opt (m32 ss) λq=>opt (A92 q.1.1) λr=>cn[c]? == some r.1.1&&glob sc r.1.1|.exp e,ss=>opt (V01 ss) λq=>P30 q.1.1&&!isL e&&mt lm fns nums e sc N [q.1.1]|.app i e,ss=>opt (V01 ss) λq=>opt (V11 q.1.1) λr=>r.1.2.2.1 == ("append":Str)&&N[i]? == some r.1.1&&c20 r.1.1&&noStar r.1.2.2.2.2.1&&!isL e&&r.1.2.2.2.1.endLine == r.1.2.2.2.2.2.line&&mt lm fns nums e sc N [r.1.2.2.2.2.1]|.newz i f as,ss=>opt (U91 ss) λq=>opt (M92 q.1.1) λr=>N[i]? == some r.1.1&&P50 sc r.1.1&&P30 q.1.2.1&&mt lm fns nums (.call f as) sc N [q.1.2.1]|.zset i e,ss=>opt (U91 ss) λq=>opt (M72 q.1.1) λr=>N[i]? == some r.1.1&&c20 r.1.1&&!isL e&&mt lm fns nums e sc N [q.1.2.1]|.apop i j e,ss=>opt (V01 ss) λq=>opt (V11 q.1.1) λr=>opt (V11 r.1.2.2.2.2.1) λt=>r.1.2.2.1 == ("append":Str)&&t.1.2.2.1 == ("pop":Str)&&N[i]? == some r.1.1&&c20 r.1.1&&N[j]? == some t.1.1&&c20 t.1.1&&noStar t.1.2.2.2.2.1&&!isL e&&r.1.2.2.2.1.endLine == r.1.2.2.2.2.2.line&&t.1.2.2.2.1.endLine == t.1.2.2.2.2.2.line&&mt lm fns nums e sc N [t.1.2.2.2.2.1]
section
variable {lm:Bool}{X:Cx}{G:Gs}{E:XK}{N:List Str}{sc:ú}{cn:List Str}{H0:Hp}{zE:Option Æ}
theorem B02(x:XI lm X G E N sc){it:It}{src:Ex}{tg iter:Ñ}(hL:isL src=true)(h:mtI lm G.fns G.nums it src sc N tg iter=true):PI X tg iter (tIt X.K G E it src):=by
 cases it with
 |seq =>
  obtain⟨a,rfl,ga⟩:=s71 hL (sound G src x h);exact L01 ga
 |rng1 =>
  obtain⟨⟨⟨n,_,a,_⟩,rfl⟩,-,h⟩:=a50 h;simp only[Â,beq_iff_eq] at h;exact r91 x h.1.1 h.1.2 hL (sound G src x h.2)
 |rng2 =>
  obtain⟨⟨⟨n,_,a,b,_⟩,rfl⟩,-,h⟩:=a50 h;simp only[Â,beq_iff_eq] at h;exact s01 x h.1.1 h.1.2 hL (sound G src x h.2)
 |zip =>
  obtain⟨⟨⟨n,_,a,b,_⟩,rfl⟩,-,h⟩:=a50 h;simp only[Â,beq_iff_eq] at h;exact s31 x h.1.2 h.1.1.1 h.1.1.2 hL (sound G src x h.2)
theorem b71(h:U81 e=true):∀ t a b p,e≠.IfExp t a b p:=by
 intro t a b p he;subst he;cases h
def GS(X:Cx)(G:Gs)(E:XK)(H0:Hp)(zE:Option Æ)(s:Sm)(ss:List Å0):Prop:=(isQ s=true->PSs X ss (tX X.K G E H0 zE s))/\(isQ s=false->∃ st,ss=[st]/\PS X st (tX X.K G E H0 zE s))
theorem m90{s:Sm}{st:Å0}(hq:isQ s=false)(h:PS X st (tX X.K G E H0 zE s)):GS X G E H0 zE s [st]:=⟨λk=>(by rw[hq] at k;cases k),λ_=>⟨st,rfl,h⟩⟩
theorem V21{x:XI lm X G E N sc}{e:Ex}{elt:Ñ}{gs:List Comprehension}{csc:ú}{q:Pos}(h:mt lm G.fns G.nums e sc N [.ListComp elt gs csc q]=true)(hL:isL e=false):∃ tg iter ifs,gs=[⟨tg,iter,ifs,0⟩]/\E30 X G E e elt tg iter ifs csc:=by
 cases e with
 |comp own capt p it src cond el =>
  match gs,h with
  |[⟨tg,iter,ifs,0⟩],h=>exact⟨tg,iter,ifs,rfl,P20 (λx _=>sound G src x) (λx _=>sound G cond x) (λx _=>sound G el x) x h⟩
 |nil=>cases hL
 |cons _ _=>cases hL
 |bf f as=>cases f <;> cases h
 |_=>cases h
theorem V31(h:isNm e=true):∃ y p,e=.Name y p:=by
 cases e <;> first | exact⟨_,_,rfl⟩ | cases h
theorem s80(h:s40 e=true):∃ ts k p,e=.Tuple ts k p:=by
 cases e <;> first | exact⟨_,_,_,rfl⟩ | cases h
theorem B12(x:XS lm X G E N sc cn){p:Pat}{e:Ex}{tg v:Ñ}{pos:Pos}(h1:(!isL e)=true)(h2:i80 N (P50 sc) p tg=true)(h3:mt lm G.fns G.nums e sc N [v]=true)(h4:setB sc p e tg v=true):PS X (.Assign [tg] v pos) (tX X.K G E H0 zE (.set p e)):=by
 have g:=a80 (b50 h1) (sound G e x.toXI h3);unfold setB at h4;split at h4
 ·rename_i hn;obtain⟨y,px,rfl⟩:=V31 hn;cases p with
  |v i =>
   unfold i80 at h2;rw[Â,beq_iff_eq] at h2;refine z82 x h2.1 h2.2 g (λelt gs csc q hv=>?_) (λa b c d hv=>?_) (λa b c d f hv=>?_)
   ·subst hv;exact V21 (x:=x.toXI) h3 (b50 h1)
   ·subst hv;cases h4
   ·subst hv;exact eq_of_beq h4
  |tup _=>unfold i80 at h2;cases h2
  |nil=>unfold i80 at h2;cases h2
  |cons _ _=>unfold i80 at h2;cases h2
 ·split at h4
  ·rename_i ht;split at h4
   ·rename_i hv;rw[À6,À6] at h4;rcases h4 with (h4 | h4) | h4
    ·obtain⟨ts,k,tp,rfl⟩:=s80 ht;obtain⟨vs,k',vp,rfl⟩:=s80 hv;exact t21 x h2 g rfl (U31 h4)
    ·obtain⟨ts,k,tp,rfl⟩:=s80 ht;obtain⟨vs,k',vp,rfl⟩:=s80 hv;refine t21 x h2 g rfl (U41 ?_);have e:X.env.kindOf=λy=>sc.names.lookup y:=by funext y;unfold Env.kindOf;rw[x.sco]
     rw[e];exact h4
    ·clear g h1 ht hv;obtain⟨⟨⟨i,j⟩,rfl⟩,-,h4⟩:=a50 h4;obtain⟨⟨⟨ea,eb⟩,rfl⟩,-,h4⟩:=a50 h4;obtain⟨⟨⟨y,px,w,py,kt,tp⟩,rfl⟩,-,h4⟩:=a50 h4;obtain⟨⟨⟨a,b,kv,vp⟩,rfl⟩,-,h4⟩:=a50 h4;simp only[Â,î,beq_iff_eq] at h4;obtain⟨⟨⟨⟨⟨⟨⟨k1,k2⟩,k3⟩,k4⟩,k5⟩,k6⟩,k7⟩,k8⟩:=h4;unfold i80 at h2;simp only[i01,i80,Â,beq_iff_eq] at h2;obtain⟨⟨_,h21,_⟩,⟨_,h22,_⟩,_⟩:=h2;have h3':(isL (.cons ea (.cons eb .nil))&&mt lm G.fns G.nums (.cons ea (.cons eb .nil)) sc N [a,b])=true:=h3;rw[Â] at h3';have ga:Good X G E (.cons ea (.cons eb .nil)) [a,b]:=sound G (.cons ea (.cons eb .nil)) x.toXI h3'.2;refine z92 x h21 h22 (by simpa using k1) k2 k3 ga (l62 x.bk ?_ ?_ (by simpa using k1) (by rw[k4];exact beq_self_eq_true _) k5 k6 k7 k8)
     ·unfold Env.kindOf;rw[x.sco];exact k2
     ·unfold Env.kindOf;rw[x.sco];exact k3
   ·rename_i hv;exact t21 x h2 g ht (U21 (by simpa using hv))
  ·cases h4
theorem t51(h:G91 e=true):e=.con .non:=by
 unfold G91 at h;split at h
 ·rfl
 ·cases h
theorem B22(x:XS lm X G E N sc cn)(h:(match o with | some v=>!isL e&&mt lm G.fns G.nums e sc N [v] | none=>G91 e)=true):PS X (.Return o pos) (tX X.K G E H0 zE (.ret e)):=by
 cases o with
 |some v =>
  have h:(!isL e&&mt lm G.fns G.nums e sc N [v])=true:=h;rw[Â] at h;by_cases hv:∃ i,e=.var i
  ·obtain⟨i,rfl⟩:=hv;have h2:=h.2;cases v with
   |Name n p =>
    have h2:(N[i]? == some n&&c20 n)=true:=h2;rw[Â,beq_iff_eq] at h2;exact l72 x h2.1 h2.2
   |_=>cases h2
  ·exact A02 (λi hi=>hv ⟨i,hi⟩) (a80 (b50 h.1) (sound G e x.toXI h.2))
 |none =>
  have he:=t51 h;subst he;refine PS.imp N01 λD σ H q=>?_;obtain⟨zA,ow,ρ,z,rr,rw,st,ee,po⟩:=q;cases ee;exact po .non H (λk=>nomatch k) rw.ext (a32 rw.zok st) (show Hd X.K (hz zE H) .non .non from Hd.non)
theorem N02(x:XS lm X G E N sc cn){p:Pat}{it:It}{src:Ex}{b:Sm}{tg iter:Ñ}{body:List Å0}{pos:Pos}(h1:i80 N (P50 sc) p tg=true)(h2:isL src=true)(h3:s30 iter=true)(h5:mtI lm G.fns G.nums it src sc N tg iter=true)(hb:PSs X body (tX X.K G E H0 zE b)) :
  PS X (.For tg iter body [] pos) (tX X.K G E H0 zE (.fr p it src b)):=by
 cases hv:R21 it src with
 |some q =>
  obtain⟨i,rfl,rfl⟩:=q;have h5':(noStar iter&&!isL (.var i)&&isL .nil&&mt lm G.fns G.nums (.var i) sc N [iter]&&mt lm G.fns G.nums .nil sc N [])=true:=h5;simp only[Â] at h5';have h7:=h5'.1.2;cases iter with
  |Name n np =>
   have h7:(N[i]? == some n&&c20 n)=true:=h7;rw[Â,beq_iff_eq] at h7;exact m22 x h1 h7.1 h7.2 hb
  |_=>cases h7
 |none=>exact A52 x h1 (B02 x.toXI h2 h5) h3 hv hb
theorem m42(x:XS lm X G E N sc cn):∀ (s:Sm) {ss:List Å0},mtS lm G.fns G.nums cn sc N s ss=true->GS X G E H0 zE s ss:=by
 intro s
 induction s with
 |nil =>
  intro ss h;have:ss=[]:=Ë6.mp h;subst this;exact⟨λ_=>z62,λk=>by cases k⟩
 |seq s r ihs ihr =>
  intro ss h;obtain⟨st,h0,h⟩:=a50 h;cases ss with
  |nil=>cases h0
  |cons st' rest =>
   cases h0;simp only[Â,î,List.tail_cons] at h;obtain⟨⟨⟨h1,h2⟩,h3⟩,h4⟩:=h;obtain⟨st',he,hs⟩:=(ihs h3).2 h1;cases he;exact⟨λ_=>z72 hs ((ihr h4).1 h2),λk=>by cases k⟩
 |set p e =>
  intro ss h;obtain⟨⟨q,rfl⟩,-,h⟩:=a50 h;simp only[Â] at h;exact m90 rfl (B12 x h.1.1.1 h.1.1.2 h.1.2 h.2)
 |ret e =>
  intro ss h;obtain⟨⟨q,rfl⟩,-,h⟩:=a50 h;exact m90 rfl (B22 x h)
 |iff c t u iht ihu =>
  intro ss h;obtain⟨⟨q,rfl⟩,-,h⟩:=a50 h;simp only[Â] at h;obtain⟨⟨⟨⟨⟨⟨h1,h2⟩,h3⟩,h4⟩,h5⟩,h6⟩,h7⟩:=h;exact m90 rfl (L92 (a80 (b50 h1) (sound G c x.toXI h5)) (b71 h2) ((iht h6).1 h3) ((ihu h7).1 h4))
 |fr p it src b ih =>
  intro ss h;obtain⟨⟨q,rfl⟩,-,h⟩:=a50 h;simp only[Â] at h;obtain⟨⟨⟨⟨⟨h1,h2⟩,h3⟩,h4⟩,h5⟩,h6⟩:=h;exact m90 rfl (N02 x h1 h2 h3 h5 ((ih h6).1 h4))
 |whl c b ih =>
  intro ss h;obtain⟨⟨q,rfl⟩,-,h⟩:=a50 h;simp only[Â] at h;obtain⟨⟨⟨⟨h1,h2⟩,h3⟩,h4⟩,h5⟩:=h;exact m90 rfl (A32 x (a80 (b50 h1) (sound G c x.toXI h4)) (b71 h2) ((ih h5).1 h3))
 |rais c =>
  intro ss h;obtain⟨⟨⟨e,pos⟩,rfl⟩,-,h⟩:=a50 h;dsimp only at h;obtain⟨⟨⟨n,p1,y,k,p2,p3⟩,rfl⟩,-,h⟩:=a50 h;simp only[Â,beq_iff_eq] at h;exact m90 rfl (x_raise x h.1 h.2)
 |exp e =>
  intro ss h;obtain⟨⟨q,rfl⟩,-,h⟩:=a50 h;simp only[Â] at h;exact m90 rfl (A12 (a80 (b50 h.1.2) (sound G e x.toXI h.2)) h.1.1)
 |app i e =>
  intro ss h;obtain⟨⟨⟨v0,pos⟩,rfl⟩,-,h⟩:=a50 h;dsimp only at h;obtain⟨⟨⟨n,p1,a,apos,v,cpos⟩,rfl⟩,-,h⟩:=a50 h;simp only[Â,beq_iff_eq] at h;obtain⟨⟨⟨⟨⟨⟨h7,h8⟩,h2⟩,h3⟩,h4⟩,h5⟩,h6⟩:=h;subst h7;exact m90 rfl (A22 x h8 h2 h3 (a80 (b50 h4) (sound G e x.toXI h6)) (by rw[h5];exact beq_self_eq_true _))
 |newz i f as =>
  intro ss h;obtain⟨⟨⟨tg,v,pos⟩,rfl⟩,-,h⟩:=a50 h;dsimp only at h;obtain⟨⟨⟨y,p1⟩,rfl⟩,-,h⟩:=a50 h;simp only[Â,beq_iff_eq] at h;obtain⟨⟨⟨h1,h2⟩,h3⟩,h4⟩:=h;exact m90 rfl (l82 x h1 h2 (a80 rfl (sound G (.call f as) x.toXI h4)) h3)
 |zset i e =>
  intro ss h;obtain⟨⟨⟨tg,v,pos⟩,rfl⟩,-,h⟩:=a50 h;dsimp only at h;obtain⟨⟨⟨n,p1,c,p2,p3⟩,rfl⟩,-,h⟩:=a50 h;simp only[Â,beq_iff_eq] at h;exact m90 rfl (l92 x h.1.1.1 h.1.1.2 (a80 (b50 h.1.2) (sound G e x.toXI h.2)))
 |apop i j e =>
  intro ss h;obtain⟨⟨⟨v0,pos⟩,rfl⟩,-,h⟩:=a50 h;dsimp only at h;obtain⟨⟨⟨n,p1,a,apos,v1,cpos⟩,rfl⟩,-,h⟩:=a50 h;dsimp only at h;obtain⟨⟨⟨m,p2,b,apos',v,cpos'⟩,rfl⟩,-,h⟩:=a50 h;simp only[Â,beq_iff_eq] at h;obtain⟨⟨⟨⟨⟨⟨⟨⟨⟨⟨g1,g2⟩,g3⟩,g4⟩,g5⟩,g6⟩,g7⟩,g8⟩,g9⟩,g10⟩,g11⟩:=h;subst g1;subst g2;exact m90 rfl (m02 x g3 g4 g5 g6 g7 (a80 (b50 g8) (sound G e x.toXI g11)) (by rw[g9];exact beq_self_eq_true _) (by rw[g10];exact beq_self_eq_true _))
end
structure GX(P:Program)(w:World)(K:PySem.W.Frag)(mg:Str->Option Value)(base:Heap)(G:Gs)(cn:List Str):Prop where
 gok:∀ f nm ps,G.fns[f]?=some (nm,ps)->∃ fa fd,mg nm=some (.ref fa)/\PySem.W.keepIn K (.ref fa)=true/\Binds K fd ps []/\S00 P w K mg base (CX1 P w) G.lv fa fd ps (spF K G f ps.length)
 num:∀ p∈G.nums,∃ t,mg p.1=some (.int p.2 t)
 blt:∀ n∈T31,mg n=none
 cls:∀ c x,cn[c]?=some x->mg x=some (.ref (G.cls c))/\PySem.W.excIn K (G.cls c) [.type "ValueError",.type "Exception",.type "BaseException",.type "object"] "ValueError.__new__"=true
section
variable {P:ß}{w:ò}{K:Á}{mg:Str->Option Ã}{base:ë}{G:Gs}{cn:List Str}
structure r12(P:Program)(w:World)(K:PySem.W.Frag)(mg:Str->Option Value)(base:Heap)(cls:Nat->Addr)(fR:Addr)(fdR:FuncData):Prop where
 bm:BMain mg base
 cls:∀ j,j < 12->N70 K mg (cls j) j
 m:mg "_law_refused"=some (.ref fR)
 kp:PySem.W.keepIn K (.ref fR)=true
 bd:Binds K fdR ["_law_call"] []
 fn:∀ k,g81 P w K mg base CX0 (k + 2) fR fdR ["_law_call"] (Q81 P w K mg base (k + 1))
def r22(K:Á)(nm:Str)(fd:Ä8):Prop:=∃ (c P:Æ) (q:Str),fd.code=.ref c/\Ä0 K c P=true/\(∀ sc n f cd,(Î4 nm sc n f cd).qual++"<lambda>"=q)/\(P,q)∈TB.tb/\∀ p∈TB.tb,p.1=P->p.2=q
def Low(P:ß)(w:ò)(K:Á)(mg:Str->Option Ã)(base:ë)(G:Gs)(k:Nat):Prop:=∀ f nm ps,G.fns[f]?=some (nm,ps)->∃ fa fd,mg nm=some (.ref fa)/\Ò4 K (.ref fa)=true/\Binds K fd ps []/\S00 P w K mg base (CX1 P w) k fa fd ps (spF K (lowG G k) f ps.length)
theorem m52(g:GX P w K mg base G cn){lm:Bool}{N ps:List Str}{qual:Str}{sc:ú}{f:Æ}{fd:Ä8}{cd:Ã}{A:ù}{outer:List Æ8}{s:Å}{H:Hp}{E:XK}(S:j20 N ps sc)(hl:N.all (P50 sc)=true)
  (hr:x40 G.lv (A.deeper (Î4 qual sc s.heap.objs.size f cd))) (hc:fd.code=cd) (hlam:lm=true->∃ k fR fdR,G.lv=k + 2/\r12 P w K mg base G.cls fR fdR/\r22 K qual fd/\Low P w K mg base G k):XS lm (C90 (CX1 P w) P w K mg base N qual sc f cd A outer s H E) G E N sc cn where
 gok:=g.gok
 num:=g.num
 blt:=g.blt
 hN:=rfl
 nd:=S.nd
 vis:=λx hx=>by
  have:=â.mp hl x hx;unfold P50 at this;rw[À6,beq_iff_eq,beq_iff_eq] at this;rcases this with h | h
  ·exact .inl h
  ·exact .inr (.inl h)
 glb:=λx h=>h
 cel:=λx h=>h
 calm:=rfl
 room:=hr
 pas:=u72
 lam:=λh=>by
  obtain⟨k,fR,fdR,e1,L,⟨c,P',q,d1,d2,d3,d4,d5⟩,lo⟩:=hlam h;exact⟨c,P',q,k,fR,fdR,rfl,hc.symm.trans d1,d2,d3 _ _ _ _,d4,d5,L.bm,e1,L.cls,L.m,L.kp,L.bd,L.fn k,lo⟩
 sco:=rfl
 fnk:=S.kind
 own:=PassesOwn.leaving
 can:=o41
 fnx:=λ_=>rfl
 cls:=g.cls
theorem N12{x qual:Str}{st:Å0}{f:Æ}{fd:Ä8}{N ps:List Str}{k:Nat}{sp:Sp}(F:Fun K x qual st f fd)(S:j20 N ps (b60 st))(len:∀ vs H Q E,sp vs H Q E->vs.length=ps.length)
  (hb:∀ (cdv:Ã),fd.code=cdv->∀ (A:ù) (outer:List Æ8) (s:Å) (H:Hp) (vs:List V) (Q:VK) (E:XK),x40 k (A.deeper (Î4 qual (b60 st) s.heap.objs.size f cdv))->sp vs H Q E ->
   ∃ t,PSs (C90 (CX1 P w) P w K mg base N qual (b60 st) f cdv A outer s H E) (h80 st) t/\t { nx:=λ_ H'=>Q .non H',rt:=Q } (L2.start N vs) H):S00 P w K mg base (CX1 P w) (k + 1) f fd ps sp:=by
 obtain⟨oc,od,kV,doc,pm,an,cdv,ct,osl,rfl,lk,hcd⟩:=F.ex;exact t32 lk hcd S len λA outer s H vs Q E hr hsp=>hb cdv rfl A outer s H vs Q E hr hsp
theorem b81:∀ {ss:List S}{vs:List V}{i:Nat}{s:S}{n:Nat},RvA K zA H ss vs->(ss.map some++ï n none)[i]?=some (some s)->∃ v,(vs.map some++ï n none)[i]?=some (some v)/\RvP K zA H s v
 |[],_,i,s,n,h,e=>by
  cases h;simp only[map_nil,Ï0] at e;rw[Ñ3] at e;split at e <;> cases e
 |a::ss,_,0,s,n,h,e=>by
  cases h with
  |cons h1 h2 =>
   simp only[Ç0,List.cons_append,É4] at e;cases e;exact⟨_,rfl,h1⟩
 |a::ss,_,i + 1,s,n,h,e=>by
  cases h with
  |cons h1 h2 =>
   obtain⟨v,k1,k2⟩:=b81 (i:=i) (s:=s) (n:=n) h2 (by simpa using e)
   exact⟨v,by simpa using k1,k2⟩
theorem Ä3.len{α β:Type}{R:α->β->Prop}:∀ {l:List α}{m:List β},Ä3 R l m->l.length=m.length
 |[],_,h=>by cases h;rfl
 |_::_,_,h=>by
  cases h with
  |cons h1 h2=>simp[Ä3.len h2]
theorem H01(h:RvA K zA H ss vs)(hn:∀ s∈ss,∀ xs,s≠.fr xs):RW K H zA zA (λ_=>none) H (Q.start N.length ss) (L2.start N vs):=by
 have hl:ss.length=vs.length:=Ä3.len h;refine⟨?_,λi j a e=>(nomatch e),λi a e=>(nomatch e),λi a e=>(nomatch e),λi s e=>?_,Ext.refl,.inl rfl,λi a e=>(nomatch e)⟩
 ·unfold Q.start L2.start;simp[hl]
 ·unfold Q.start at e;obtain⟨v,k1,k2⟩:=b81 h e;refine⟨v,?_,?_⟩
  ·unfold L2.start;rw[← hl];exact k1
  ·cases s with
   |d x=>exact⟨rfl,by rw[m80];exact k2⟩|z=>exact⟨rfl,k2⟩|ks l=>exact⟨rfl,by rw[m80];exact k2⟩
   |fr xs =>
    rcases À5.mp (ì e) with q | q
    ·obtain⟨s',q1,q2⟩:=Î.mp q;cases q2;exact absurd rfl (hn _ q1 xs)
    ·cases List.eq_of_mem_replicate q
theorem V41(st:d50 zA z H):r02 zA z1=I80 z z1:=by
 have st:=st.zat;cases zA with
 |none =>
  cases z with
  |none=>rfl|some p=>exact st.elim
 |some a =>
  cases z with
  |none=>exact st.elim|some p=>rfl
theorem t61(st:d50 zA z H):z.isNone=zA.isNone:=by
 have st:=st.zat;cases zA with
 |none =>
  cases z with
  |none=>rfl|some p=>exact st.elim
 |some a =>
  cases z with
  |none=>exact st.elim|some p=>rfl
theorem t71(g:GX P w K mg base G cn){lm:Bool}{N ps:List Str}{nm:Str}{st:Å0}{fa:Æ}{fd:Ä8}{b:Sm}{f:Nat}{F':FT}(Fn:Fun K nm nm st fa fd)(Sc:j20 N ps (b60 st))(hl:N.all (P50 (b60 st))=true)
  (ch:mtS lm G.fns G.nums cn (b60 st) N b (h80 st)=true) (hq:isQ b=true) (hlam:lm=true->∃ k fR fdR,G.lv=k + 2/\r12 P w K mg base G.cls fR fdR/\r22 K nm fd/\Low P w K mg base G k)
  (hF:∀ l z,F' false f l z=run G.F (.code ps.length N.length b) l z):S00 P w K mg base (CX1 P w) (G.lv + 1) fa fd ps (spF K { G with F:=F',lv:=G.lv + 1 } f ps.length):=by
 refine N12 Fn Sc (λvs H Q E h=>h.1) λcdv hcd A outer s H vs Qv E hr hsp=>?_;obtain⟨hlen,zA,z,ss,r,rv,st',e,po⟩:=hsp;refine⟨_,(m42 (H0:=H) (zE:=zA) (m52 g Sc hl hr hcd hlam) b ch).1 hq,?_⟩;have e0:(if ss.length=ps.length/\ps.length<=N.length then(match ex G.F z.isNone b (Q.start N.length (ss.map plS)) z with
  |some (.ok (.nx _) z1)=>some (R.ok (S.d .non) (I80 z z1))|some (.ok (.rt s) z1)=>some (R.ok s (I80 z z1))|some (.er c z1)=>some (R.er c (I80 z z1))
  |none=>none) else none)=some r:=by
  have:=hF ss z;exact this.symm.trans e
 rw[t61 st'] at e0;split at e0
 ·have rw0:RW K H zA zA (λ_=>none) H (Q.start N.length (ss.map plS)) (L2.start N vs):=H01 rv.plS λs hs xs=>by
   obtain⟨s',_,rfl⟩:=Î.mp hs;cases s' <;> exact λh=>nomatch h
  split at e0
  ·rename_i ρ z1 e1;cases e0;refine⟨zA,_,_,z,_,rw0,st',e1,λzA' ow' σ' H' r' st1 _=>?_⟩;refine po .non H' r'.ext ?_ (show Hd K (hz zA H') .non .non from Hd.non);rw[← V41 st'];exact a32 r'.zok st1
  ·rename_i s1 z1 e1;cases e0;refine⟨zA,_,_,z,_,rw0,st',e1,λv H' nz x st1 rv'=>?_⟩;exact po v H' x (by rw[← V41 st'];exact st1) rv'
  ·rename_i c z1 e1;cases e0;refine⟨zA,_,_,z,_,rw0,st',e1,λe H' x st1 hn=>?_⟩;exact po e H' x (by rw[← V41 st'];exact st1) hn
  ·cases e0
 ·cases e0
def lev(G:Gs)(T:List Df)(k:Nat):Gs:={ G with F:=Z90 T k,lv:=k }
theorem m62{T:List Df}
  (num:∀ p∈G.nums,∃ t,mg p.1=some (.int p.2 t)) (blt:∀ n∈T31,mg n=none)
  (cls:∀ c x,cn[c]?=some x->mg x=some (.ref (G.cls c))/\Ë1 K (G.cls c) [.type "ValueError",.type "Exception",.type "BaseException",.type "object"] "ValueError.__new__"=true)
  (hd:∀ (f:Nat) (nm:Str) (ps:List Str),G.fns[f]?=some (nm,ps)->∃ (fa:Æ) (fd:Ä8),mg nm=some (.ref fa)/\Ò4 K (.ref fa)=true/\Binds K fd ps [] /\
   ((∃ (lm:Bool) (N:List Str) (st:Å0) (b:Sm),T[f]?=some (Df.code ps.length N.length b)/\Fun K nm nm st fa fd/\j20 N ps (b60 st)/\N.all (P50 (b60 st))=true/\isQ b=true/\mtS lm G.fns G.nums cn (b60 st) N b (h80 st)=true/\(lm=true->∃ fR fdR,r12 P w K mg base G.cls fR fdR/\r22 K nm fd)) ∨
    T[f]?=none)):∀ k,GX P w K mg base (lev G T k) cn:=by
 have zero:∀ k,k < 3->GX P w K mg base (lev G T k) cn:=λk hk=>by
  refine⟨λf nm ps h=>?_,num,blt,cls⟩;obtain⟨fa,fd,h1,h2,h3,_⟩:=hd f nm ps h;refine⟨fa,fd,h1,h2,h3,λvs H Q E q=>q.1,λA outer s H args us vs Q E hr he hb hv hs=>?_⟩;obtain⟨_,zA,z,ss,r,_,_,e,_⟩:=hs
  match k,hk with
  |0,_=>cases e
  |1,_=>cases e
  |2,_=>cases e
 intro k
 induction k using Û4 with
 |ind k ih =>
  match k,ih with
  |0,_=>exact zero 0 (-0)|1,_=>exact zero 1 (-0)|2,_=>exact zero 2 (-0)
  |k + 3,ih =>
   refine⟨λf nm ps h=>?_,num,blt,cls⟩;obtain⟨fa,fd,h1,h2,h3,h4⟩:=hd f nm ps h;refine⟨fa,fd,h1,h2,h3,?_⟩;rcases h4 with ⟨lm,N,st,b,k1,k2,k3,k4,k5,k6,k7⟩ | h4
   ·refine t71 (G:=lev G T (k + 2)) (F':=Z90 T (k + 3)) (ih (k + 2) ∅) k2 k3 k4 k6 k5 (λhlm=>?_) λl z=>?_
    ·obtain⟨fR,fdR,L,D⟩:=k7 hlm;exact⟨k,fR,fdR,rfl,L,D,λf nm ps h=>(ih k ∅).gok f nm ps h⟩
    ·show(match T[f]? with | some d=>run (Z90 T (k + 2)) d l | none=>M.no) z=_
     rw[k1];rfl
   ·refine⟨λvs H Q E q=>q.1,λA outer s H args us vs Q E hr he hb hv hs=>?_⟩;obtain⟨_,zA,z,ss,r,_,_,e,_⟩:=hs;have e':(match T[f]? with | some d=>run (Z90 T (k + 2)) d ss | none=>M.no) z=some r:=e
    rw[h4] at e';cases e'
end
end Q
namespace L2
open PySem PySem.W PySem.Calls PyProof.Rows
def B40(thr sok:Thread->Bool)(stp:SharedT->Thread->Option (SharedT × Thread)):Nat->SharedT->Thread->Option SharedT
 |0,_,_=>none
 |n + 1,s,t=>match thr t with
  |true=>some s
  |false=>match sok t with
   |false=>none
   |true=>match stp s t with
    |some (s',t')=>B40 thr sok stp n s' t'|none=>none
theorem P60:∀ {n:Nat}{s s':SharedT}{t:Thread},B40 through (stepOk n₀ ann) (stepT (denote tb) p w) n s t=some s'->topRun tb p w n₀ ann n s.abs t=some s'.abs
 |0,_,_,_,h=>by cases h
 |n + 1,s,s',t,h=>by
  unfold B40 at h;unfold topRun;cases ht:through t with
  |true=>rw[ht] at h;cases h;rfl
  |false =>
   rw[ht] at h;cases hok:stepOk n₀ ann t with
   |false=>rw[hok] at h;cases h
   |true =>
    rw[hok] at h;cases hst:stepT (denote tb) p w s t with
    |none=>rw[hst] at h;cases h
    |some r=>obtain⟨s₂,t₂⟩:=r;rw[hst] at h;rw[stepT_spec hst];exact P60 h
def grow:List Obj->Nat->BT->BT
 |[],_,t=>t|o::r,i,t=>grow r (i + 1) (t.ins i o)
def V51(w:ò)(os:OsState):SharedT:=⟨grow (È6 w.params).objs.toList 0 .nil,11,(È6 w.params).life,Array.mk [],boot_drawn,boot_toks,os⟩
theorem t81:∀ (w:ò) (os:OsState),(V51 w os).abs=⟨È6 w.params,Array.mk [],boot_drawn,boot_toks,os⟩:=λw os=>by kernel_rfl
theorem t91:∀ w:ò,((È6 w.params).isNs æ&&(Array.mk []:Array GenState).size == 0,(È6 w.params).objs.size,(È6 w.params).nsMap æ "__annotations__")=(true,11,some (.ref 6)):=λw=>by kernel_rfl
theorem V61{p q:ß}{loose:List Str}{Xt:Å->Bool}{α:Type}{Yf:Å->α}{Ya:ò->α}{N:Nat}
  (e:opening p=plainProg p.main.scope.names) (hN:ble 600 N=true) (f:∀ s,fenceModules? p s=some s)
  (run:∀ (w:ò) (os:OsState),(B40 through (stepOk 11 (some (.ref 6))) (stepT (denote treeTable) p w) N (V51 w os) (topStub p)).map (λs =>
   (staticsOk (Î3 p.main.body) (È6 w.params) s.abs.heap&&namesBound p s.abs.heap&&gensDone s.abs&&laidKept (È6 w.params) s.abs.heap,
    openSeen q loose (Î3 p.main.body) Xt true s.abs,Yf s.abs))=some (true,openGood q loose,Ya w)):LeftO p q loose Xt Yf Ya N:=λw=>by
 obtain⟨⟨h,gs,d,k,os⟩,e1,e2⟩:=È.mp (boot_open (N:=N) e hN f w);obtain⟨rfl,rfl,rfl,rfl⟩:h=È6 w.params/\gs=Array.mk []/\d=boot_drawn/\k=boot_toks:=by simpa using e2
 obtain⟨z1,z2,z3⟩:_/\_/\_:=by simpa only [Î6] using t91 w
 obtain⟨s1,r1,r2⟩:=È.mp (run w os);obtain⟨l1,l2,l3⟩:_/\_/\_:=by simpa only [Î6] using r2
 have r:=P60 r1;rw[t81] at r;unfold openEnds;rw[e1];show Ë2 _ (topFrom treeTable p w N _)=_;unfold topFrom;dsimp only;rw[z1,z2,z3,r];show Ë2 _ (match staticsOk (Î3 p.main.body) (È6 w.params) s1.abs.heap&&namesBound p s1.abs.heap&&gensDone s1.abs&&laidKept (È6 w.params) s1.abs.heap with | true=>_ | false=>_)=_
 rw[l1];exact congrArg Option.some (Prod.ext l2 l3)
def P70(o:Obj):Bool:=match o with
 |⟨.none,none,.fields vs,sl⟩=>vs.isEmpty&&sl.isEmpty|_=>false
def B32(h:ë)(a:Æ):Option Obj:=match h.get? a with
 |some o=>if P70 o then none else some o|none=>none
def fragOf(h:ë):Frag:=(Ú h.objs.size).filterMap λa=>(B32 h a).map λo=>(a,o)
theorem s90(g:Æ->Option Obj)(a:Æ):∀ l:List Æ,(l.filterMap λa=>(g a).map λo=>(a,o)).lookup a=if a∈l then g a else none
 |[]=>rfl
 |b::r=>by
  by_cases hb:a=b
  ·subst hb;rw[if_pos É];cases hg:g a with
   |none =>
    rw[À7,hg];show(r.filterMap λa=>(g a).map λo=>(a,o)).lookup a=none;rw[s90 g a r];split
    ·exact hg
    ·rfl
   |some o =>
    rw[À7,hg];show Ì4 a ((a,o)::_)=some o;rw[List.lookup_cons_self]
  ·have hm:(a∈b::r)↔a∈r:=by rw[È8];exact⟨λh=>h.resolve_left hb,Ô6⟩
   have ih:=s90 g a r;have e:(if a∈b::r then g a else none)=if a∈r then g a else none:=by simp only[hm]
   rw[e,← ih];cases hg:g b with
   |none=>rw[À7,hg];rfl
   |some o =>
    rw[À7,hg];show Ì4 a ((b,o)::_)=_;have:(a == b)=false:=by simpa using hb
    simp only[Ì4,this]
theorem u01(h:ë):(fragOf h).In h:=λa o e=>by
 unfold fragOf at e;rw[s90] at e;split at e
 ·unfold B32 at e;cases hg:h.get? a with
  |none=>rw[hg] at e;cases e
  |some u =>
   rw[hg] at e;dsimp only at e;split at e
   ·cases e
   ·exact e
 ·cases e
theorem V71(h:P70 o=true):o=tabObj #[]:=by
 unfold P70 at h;split at h
 ·rename_i vs sl;rw[Â,Array.isEmpty_iff,Array.isEmpty_iff] at h;obtain⟨rfl,rfl⟩:=h;rfl
 ·cases h
theorem i21(e:h.get? a=some o)(t:P70 o=true):(fragOf h).lookup a=none:=by
 unfold fragOf;rw[s90];split
 ·unfold B32;rw[e];exact if_pos t
 ·rfl
def u11(K:Frag)(x:Str):Option (Str × Str × Í2 × FuncBody × ú × Æ × List (Str × Æ) × Ã × Æ × Bool):=match nsIn K æ x with
 |some (some (.ref at0))=>(match K.lookup at0 with
  |some ⟨_,_,.func fd,_⟩=>some (fd.name,fd.qualname,fd.params,fd.body,fd.scope,fd.globals,fd.closure,fd.defaults,fd.builtins,codeIn K fd.code x)
  |_=>none)
 |_=>none
def V81(x:Str)(st:Å0):Option (Str × Str × Í2 × FuncBody × ú × Æ × List (Str × Æ) × Ã × Æ × Bool):=some (x,x,G80 st,.stmts (h80 st),b60 st,æ,[],.none,Ì8,true)
theorem V70{K:Frag}{x:Str}{st:Å0}(e:u11 K x=V81 x st):∃ f fd,nsIn K æ x=some (some (.ref f))/\Fun K x x st f fd/\∃ oc od sl,K.lookup f=some ⟨oc,od,.func fd,sl⟩:=by
 unfold u11 V81 at e;split at e
 ·rename_i f hf;split at e
  ·rename_i oc od fd sl hl;obtain⟨nm,qn,pm,bd,sc,gl,cl,df,kd,dc,py,an,cd,ct,bl⟩:=fd;simp only[Î6,È4] at e;obtain⟨rfl,rfl,rfl,rfl,rfl,rfl,rfl,rfl,rfl,hc⟩:=e;exact⟨f,_,hf,⟨⟨oc,od,kd,dc,py,an,cd,ct,sl,rfl,hl,hc⟩,by simp only[keepIn,hl]⟩,oc,od,sl,hl⟩
  ·cases e
 ·cases e
def tab0At(h:ë)(T:Æ):Bool:=match h.get? T with
 |some o=>P70 o|none=>false
theorem u21{h:ë}{T:Æ}(e:tab0At h T=true):h.get? T=some (tabObj #[]):=by
 unfold tab0At at e;split at e
 ·rename_i o ho;rw[ho,V71 e]
 ·cases e
def u31(h:ë)(K:Frag)(x:Str):Option Addr:=match nsIn K æ x with
 |some (some (.ref at0))=>(match K.lookup at0 with
  |some ⟨_,_,.func fn0,_⟩=>(match fn0.code with
   |.ref c=>(match K.lookup c with
    |some ⟨_,_,.fields vs,_⟩=>(match (vs[11]?:Option Ã) with
     |some (.ref T)=>if codeHdIn K c T&&tab0At h T then some T else none
     |_=>none)
    |_=>none)
   |_=>none)
  |_=>none)
 |_=>none
theorem i31{h:ë}{K:Frag}{x:Str}{T:Æ}(e:u31 h K x=some T):h.get? T=some (tabObj #[])/\∃ f oc od fd sl c,nsIn K æ x=some (some (.ref f))/\K.lookup f=some ⟨oc,od,.func fd,sl⟩/\fd.code=.ref c/\codeHdIn K c T=true:=by
 unfold u31 at e;split at e
 ·rename_i f hf;split at e
  ·rename_i oc od fd sl hl;split at e
   ·rename_i c hc;split at e
    ·split at e
     ·rename_i T' _;split at e
      ·rename_i q;cases e;rw[Â] at q;obtain⟨q1,q2⟩:=q;exact⟨u21 q2,f,oc,od,fd,sl,c,hf,hl,hc,q1⟩
      ·cases e
     ·cases e
    ·cases e
   ·cases e
  ·cases e
 ·cases e
def h40:List Str:=["NoWeb","NoLot","NoPlaces","NoPlace","NoTie","NoChance","NoChances","NoPaper","TooMany","NoText","NoLine","NoDeed"]
def P80(K:Frag)(x:Str):Option Addr:=match nsIn K æ x with
 |some (some (.ref f))=>some f|_=>none
theorem J80{K:Frag}{x:Str}{f:Æ}(e:P80 K x=some f):nsIn K æ x=some (some (.ref f)):=by
 unfold P80 at e;split at e
 ·cases e;assumption
 ·cases e
abbrev E32:=Option (Option Ã) × Option (Option Ã) × Option Bool × Option Bool × Option (Option Ã) × Bool × Option Bool × Option Bool × Bool × List (Option Bool)
def V80(K:Frag)(C:Æ):E32:=(findIn K (.ref C) "__getattribute__",findIn K (.ref C) "__getattr__",mroIn K C (.type "BaseException"),mroIn K C (.type "object"),findIn K (.ref C) "__class__",hasDictIn K C,kitOne K (.ref C) (.type "ValueError"),
 (P80 K "ChanceError").bind λD=>exmOne K (.ref C) (.ref D),excIn K C [.type "ValueError",.type "Exception",.type "BaseException",.type "object"] "ValueError.__new__",h40.map λy=>(P80 K y).bind λB=>kitOne K (.ref C) (.ref B))
def u41(x:Str):E32:=(some (some (Ï9 "BaseException.__getattribute__")),some (none:Option Ã),some true,some true,some (some (Ï9 "object.__class__")),true,some true,some true,true,h40.map λy=>some (decide (x=y)))
def V90(K:Frag)(x:Str):Option Int:=match nsIn K æ x with
 |some (some (.int i _))=>some i|_=>none
theorem W00{K:Frag}{x:Str}{i:Int}(e:V90 K x=some i):∃ t,nsIn K æ x=some (some (.int i t)):=by
 unfold V90 at e;split at e
 ·rename_i t h;cases e;exact⟨t,h⟩
 ·cases e
def W10(K:Frag)(x:Str):Bool:=match nsIn K æ x with
 |some none=>true|_=>false
theorem W20{K:Frag}{x:Str}(e:W10 K x=true):nsIn K æ x=some none:=by
 unfold W10 at e;split at e
 ·assumption
 ·cases e
structure m00 where
 ds:List (Str × Stmt)
 is:List (Str × Int)
 ns:List Str
 ms:List Str
 cs:List Str
def m00.obs(q:m00)(s:Å) :=
 let K:=fragOf s.heap
 (q.ds.map λd=>u11 K d.1,q.is.map λd=>V90 K d.1,q.ns.map (W10 K),q.ms.map λx=>(u31 s.heap K x).isSome,q.cs.map λx=>(P80 K x).map (V80 K),
  (specialIn K (.builtin "object.__class__") "__get__",takesIn K (.builtin "object.__class__")))
def m00.due(q:m00)(_:ò) :=
 (q.ds.map λd=>V81 d.1 d.2,q.is.map λd=>some d.2,q.ns.map λ_=>true,q.ms.map λ_=>true,q.cs.map λx=>some (u41 x),
  (some (some (Ï9 "getset_descriptor.__get__")),some true))
structure Facts(q:m00)(K:Frag)(h:Heap):Prop where
 fn:∀ d∈q.ds,∃ f fd,nsIn K mainGlobals d.1=some (some (.ref f))/\Fun K d.1 d.1 d.2 f fd/\∃ oc od sl,K.lookup f=some ⟨oc,od,.func fd,sl⟩
 it:∀ d∈q.is,∃ t,nsIn K mainGlobals d.1=some (some (.int d.2 t))
 no:∀ x∈q.ns,nsIn K mainGlobals x=some none
 mt:∀ x∈q.ms,∃ T,h.get? T=some (tabObj #[])/\K.lookup T=none/\∃ f oc od fd sl c,nsIn K mainGlobals x=some (some (.ref f))/\K.lookup f=some ⟨oc,od,.func fd,sl⟩/\fd.code=.ref c/\codeHdIn K c T=true
 cl:∀ x∈q.cs,∃ C,nsIn K mainGlobals x=some (some (.ref C))/\V80 K C=u41 x
 sp:specialIn K (.builtin "object.__class__") "__get__"=some (some (Value.builtin "getset_descriptor.__get__"))
 tk:takesIn K (.builtin "object.__class__")=some true
theorem E40{α β:Type}{f g:α->β}:∀ {l:List α},l.map f=l.map g->∀ a∈l,f a=g a:=λ{l} h a ha=>List.map_inj_left.mp h a ha
theorem m00.facts(q:m00)(w:ò)(s:Å)(e:q.obs s=q.due w):Facts q (fragOf s.heap) s.heap:=by
 unfold m00.obs m00.due at e;simp only[Î6] at e;obtain⟨e1,e2,e3,e4,e5,e6,e7⟩:=e;refine⟨λd hd=>V70 (E40 e1 d hd),λd hd=>W00 (E40 e2 d hd),λx hx=>W20 (E40 e3 x hx),λx hx=>?_,λx hx=>?_,e6,e7⟩
 ·obtain⟨T,hT⟩:=Û9.mp (E40 e4 x hx);obtain⟨h1,h2⟩:=i31 hT;exact⟨T,h1,i21 h1 rfl,h2⟩
 ·obtain⟨C,h1,h2⟩:=È.mp (E40 e5 x hx);exact⟨C,J80 h1,h2⟩
def m00.hook(q:m00):Hook where
 α:=_
 obs:=q.obs
 val:=q.due
 says:=λ_ h=>∃ K:Frag,K.In h/\Facts q K h
 of:=λw s e=>⟨_,u01 _,q.facts w s e⟩
 keeps:=λ_ h h' ⟨K,X,F⟩ k=>⟨K,X.keeps k,⟨F.fn,F.it,F.no,λx hx=>let ⟨T,a,b⟩:=F.mt x hx;⟨T,k _ _ a,b⟩,F.cl,F.sp,F.tk⟩⟩
end L2
namespace Q
open PySem L2 PySem.Spec PyProof.Rows
structure Row where
 nm:Str
 ps:List Str
 st:Stmt
 N:List Str
 b:Sm
 lm:Bool
def u51(N ps:List Str)(sc:ú):Bool:=sc.kind == .function&&!sc.isCoroutine&&!sc.isGenerator&&decide N.Nodup&&N.take ps.length == ps&&ps.all (λx=>sc.names.lookup x == some .local || sc.names.lookup x == some .cell)&&sc.names.all λy=>y.2 != .free
theorem b91(h:u51 N ps sc=true):j20 N ps sc:=by
 unfold u51 at h;simp only[Â,î,beq_iff_eq,Â0,decide_eq_true_eq,À6] at h;obtain⟨⟨⟨⟨⟨⟨h1,h2⟩,h3⟩,h4⟩,h5⟩,h6⟩,h7⟩:=h;exact⟨h1,h2,h3,h4,h5,h6,λy hy=>by simpa using h7 y hy⟩
def u61(r:Row):Prop:=∀ (kV doc pm:Ã) (an:Option Æ) (cdv ct:Ã) (us:List Ã),us.length=r.ps.length->bindArgs (fnOf r.nm r.nm (G80 r.st) (h80 r.st) (b60 r.st) .none kV doc pm an cdv ct) ⟨us,[]⟩=pure (r.ps.zip us)
def n00:List Row->Prop
 |[]=>True|r::l=>u61 r/\n00 l
theorem n00.at:∀ {l:List Row}{r:Row},n00 l->r∈l->u61 r
 |_::_,_,h,.head _=>h.1|_::_,_,h,.tail _ m=>n00.at h.2 m
theorem us1(h:us.length=1):∃ a,us=[a]:=List.length_eq_one_iff.mp h
theorem us2(h:us.length=2):∃ a b,us=[a,b]:=by
 match us,h with
 |[a,b],_=>exact⟨a,b,rfl⟩
theorem us3(h:us.length=3):∃ a b c,us=[a,b,c]:=by
 match us,h with
 |[a,b,c],_=>exact⟨a,b,c,rfl⟩
theorem us4(h:us.length=4):∃ a b c d,us=[a,b,c,d]:=by
 match us,h with
 |[a,b,c,d],_=>exact⟨a,b,c,d,rfl⟩
def a42(fns:List (Str × List Str))(nums:List (Str × Int))(r:Row):Bool:=mtS r.lm fns nums h40 (b60 r.st) r.N r.b (h80 r.st)&&isQ r.b&&r.N.all (P50 (b60 r.st))&&u51 r.N r.ps (b60 r.st)
def D20(rows:List Row):List (Str × List Str):=rows.map λr=>(r.nm,r.ps)
def tabOf(rows:List Row):List Df:=rows.map λr=>Df.code r.ps.length r.N.length r.b
def E50(rows:List Row)(nums:List (Str × Int))(mn:List Str)(ex:List (Str × Å0)):m00:=⟨rows.map (λr=>(r.nm,r.st))++ex,nums,"ValueError"::T31,mn,h40⟩
def clsAt(K:Á)(c:Nat):Addr:=(P80 K (h40.getD c "")).getD 0
theorem m72{K:Á}{C:Æ}{c:Nat}{x:Str}(hc:h40[c]?=some x)(h:Ð7 K æ x=some (some (.ref C))):clsAt K c=C:=by
 unfold clsAt;rw[Ö,hc];show(P80 K x).getD 0=C;unfold P80;rw[h];rfl
theorem m82{K:Á}{h:ë}{mg:Str->Option Ã}{q:m00}{x:Str}{j:Nat}(X:K.In h)(G:h.Ns æ mg)(F:Facts q K h)(hx:x∈q.cs)(hj:names12[j]?=some x)(hv:("ValueError":Str)∈q.ns):∃ C,Ð7 K æ x=some (some (.ref C))/\N70 K mg C j/\Ë1 K C [.type "ValueError",.type "Exception",.type "BaseException",.type "object"] "ValueError.__new__"=true:=by
 obtain⟨C,hC,e⟩:=F.cl x hx;unfold V80 u41 at e;simp only[Î6] at e;obtain⟨u1,u2,u3,u4,u5,hd,ve,ce,ex,ys⟩:=e;obtain⟨D,hD,ce⟩:=Í.mp ce;have lt:j < 12:=(Û.mp hj).1;refine⟨C,hC,⟨λi y hy=>?_,⟨u1,u2,u3,u4,u5,F.sp,F.tk⟩,hd,ve,mg_none_of X G (F.no _ hv),⟨D,mg_of X G (J80 hD),ce⟩,lt⟩,ex⟩;have hm:=E40 ys y (ì hy);obtain⟨B,hB,hk⟩:=Í.mp hm;refine⟨B,mg_of X G (J80 hB),hk.trans (congrArg some (decide_eq_decide.mpr ⟨λq=>?_,λq=>?_⟩))⟩
 ·subst q;have nd:names12.Nodup:=by decide +kernel
  exact(List.getElem?_inj (Û.mp hy).1 nd).mp (hy.trans hj.symm)
 ·subst q;rw[hj] at hy;cases hy;rfl
section
variable {P:ß}{w:ò}{K:Á}{mg:Str->Option Ã}{base:ë}
theorem ok0(F:S00 P w K mg base (CX1 P w) k f fd ps sp):S00 P w K mg base CX0 k f fd ps (λvs H Q _=>sp vs H Q λ_ _ _=>False) :=
 ⟨λvs H Q E h=>F.len _ _ _ _ h,λA outer s H args us vs Q E hr he hb hv hs=>Ë7 (F.run A outer s H args us vs Q _ hr he hb hv hs) λr s' h=>by
  cases r with
  |error e =>
   obtain⟨_,_,_,_,_,_,_,_,_,_,_,_,_,hE⟩:=h;exact hE.elim
  |ok fl=>cases fl <;> exact h⟩
theorem N22:Ü4 (#[]:Array Ã).toList:=by first | trivial | (unfold Ü4;trivial)
theorem p50.noT[TB:Tb](h:p50 K H a xs):p50 K (hz none H) a xs:=by
 rcases h with (h | ⟨o,h⟩) | h
 ·exact .inl (.inl (d20 h (λq=>nomatch q)))
 ·exact .inl (.inr ⟨o,d20 h (λq=>nomatch q)⟩)
 ·exact .inr h
theorem m92[TB:Tb]{G:Gs}{T:List Df}{k f:Nat}{H:Hp}{a:Æ}{ns:List Int}(pure:c00 T k f [.d (.lst (ns.map D.int))] none=some (.ok (.d (.bl true)) none))(hH:∀ p∈TB.tb,H p.1=some (.tbl #[]))(hS:p50 K H a (ns.map V.int)) :
  spF K (lev G T k) f 1 [.ref a] H (λv _=>v=.bl true) λ_ _ _=>False:=by
 refine⟨rfl,none,none,[.d (.lst (ns.map D.int))],_,.cons ?_ .nil,⟨trivial,λp hp=>⟨#[],hH p hp,N22,λpos c e=>nomatch e⟩⟩,pure,λv H' x st rv=>Hd.bl_ (show Hd K (hz none H') (.bl true) v from rv)⟩;show Hd K (hz none H) (.lst (ns.map D.int)) (.ref a);unfold Hd;exact⟨a,ns.map V.int,rfl,hS.noT,HdA.ints ns⟩
end
def E42(nm:Str):Str:=(Î4 nm ⟨.function,[],false,false,[]⟩ 0 0 .none).qual++"<lambda>"
theorem n22{rows:List Row}{f:Nat}{nm:Str}{ps:List Str}(h:(D20 rows)[f]?=some (nm,ps)):∃ r∈rows,rows[f]?=some r/\r.nm=nm/\r.ps=ps:=by
 unfold D20 at h;rw[à] at h;obtain⟨r,h1,h2⟩:=È.mp h;cases h2;exact⟨r,ì h1,h1,rfl,rfl⟩
section
variable [TB:Tb] {P:ß}{w:ò}{K:Á}{h:ë}{mg:Str->Option Ã}{base:ë}{rows:List Row}{nums:List (Str × Int)}{mn:List Str}{ex:List (Str × Å0)}
def n32(rows:List Row)(mn:List Str)(ex:List (Str × Å0)):Prop:=∀ r∈rows,r.lm=true->r.nm∈mn/\∃ (sR:Å0) (n:Nat),(("_law_refused":Str),sR)∈ex/\b60 sR=s00/\h80 sR=T70 n/\u61 ⟨"_law_refused",["_law_call"],sR,[],.nil,false⟩
def B42[TB:Tb](K:Á)(rows:List Row):Prop:=∀ r∈rows,r.lm=true->∀ fd,(∃ f oc od sl,Ð7 K æ r.nm=some (some (.ref f))/\K.lookup f=some ⟨oc,od,.func fd,sl⟩)->r22 K r.nm fd
theorem u71(X:K.In h)(Gn:h.Ns æ mg)(Q:Facts (E50 rows nums mn ex) K h):∀ c x,h40[c]?=some x->Ð7 K æ x=some (some (.ref (clsAt K c)))/\N70 K mg (clsAt K c) c/\Ë1 K (clsAt K c) [.type "ValueError",.type "Exception",.type "BaseException",.type "object"] "ValueError.__new__"=true:=λc x hc=>by
 obtain⟨C,h1,h2,h3⟩:=m82 (x:=x) (j:=c) X Gn Q (ì hc) hc É;rw[m72 hc h1];exact⟨h1,h2,h3⟩
theorem u81(X:K.In h)(Gn:h.Ns æ mg)(Q:Facts (E50 rows nums mn ex) K h)(bm:BMain mg base)(hR:n32 rows mn ex)(hr:r∈rows)(hlm:r.lm=true):∃ fR fdR,r12 P w K mg base (clsAt K) fR fdR:=by
 obtain⟨hmn,sR,n,g1,g2,g3,g4⟩:=hR r hr hlm;obtain⟨fR,fdR,a2,F2,oc2,od2,sl2,lk2⟩:=Q.fn ("_law_refused",sR) (ã _ g1);refine⟨fR,fdR,bm,λj hj=>?_,mg_of X Gn a2,F2.kp,F2.binds g4,λk=>f42 F2 g2 g3 (mg_none_of X Gn (Q.no _ (Ê _ (-0)))) (mg_none_of X Gn (Q.no _ (Ê _ (-0))))⟩
 have hx:∃ x,h40[j]?=some x:=⟨_,Ù (by exact hj)⟩
 obtain⟨x,hx⟩:=hx;exact(u71 X Gn Q j x hx).2.1
theorem V91(X:K.In h)(Gn:h.Ns æ mg)(Q:Facts (E50 rows nums mn ex) K h)(ok:rows.all (a42 (D20 rows) nums)=true)(bd:n00 rows)(bm:BMain mg base)(hR:n32 rows mn ex)(hT:B42 K rows)(F0:FT):∀ k,GX P w K mg base (lev ⟨D20 rows,nums,F0,clsAt K,0⟩ (tabOf rows) k) h40:=by
 refine m62 (λp hp=>?_) (λn hn=>?_) (λc x hc=>?_) λf nm ps hf=>?_
 ·obtain⟨t,e⟩:=Q.it p hp;exact⟨t,mg_of X Gn e⟩
 ·exact mg_none_of X Gn (Q.no n (Ê _ hn))
 ·obtain⟨h1,_,h3⟩:=u71 X Gn Q c x hc;exact⟨mg_of X Gn h1,h3⟩
 ·obtain⟨r,hr,hr2,rfl,rfl⟩:=n22 hf;obtain⟨fa,fd,a1,F1,oc,od,sl,lk⟩:=Q.fn (r.nm,r.st) (Ã7 _ (Î.mpr ⟨r,hr,rfl⟩));have rb:=â.mp ok r hr;unfold a42 at rb;simp only[Â] at rb;obtain⟨⟨⟨b1,b2⟩,b3⟩,b4⟩:=rb;refine⟨fa,fd,mg_of X Gn a1,F1.kp,F1.binds (bd.at hr),.inl ⟨r.lm,r.N,r.st,r.b,?_,F1,b91 b4,b3,b2,b1,λhlm=>?_⟩⟩
  ·unfold tabOf;rw[à,hr2];rfl
  ·obtain⟨fR,fdR,L⟩:=u81 (P:=P) (w:=w) X Gn Q bm hR hr hlm;exact⟨fR,fdR,L,hT r hr hlm fd ⟨fa,oc,od,sl,a1,lk⟩⟩
theorem n42(X:K.In h)(Gn:h.Ns æ mg)(Q:Facts (E50 rows nums mn ex) K h)(ok:rows.all (a42 (D20 rows) nums)=true)(bd:n00 rows)(bm:BMain mg base)(hR:n32 rows mn ex)(hT:B42 K rows)(F0:FT)(k:Nat)(hi:rows[i]?=some r)(F1:Fun K r.nm r.nm r.st fa fd)
  (hfd:∃ f oc od sl,Ð7 K æ r.nm=some (some (.ref f))/\K.lookup f=some ⟨oc,od,.func fd,sl⟩):S00 P w K mg base (CX1 P w) (k + 3) fa fd r.ps (spF K (lev ⟨D20 rows,nums,F0,clsAt K,0⟩ (tabOf rows) (k + 3)) i r.ps.length):=by
 have hr:=ì hi;have rb:=â.mp ok r hr;unfold a42 at rb;simp only[Â] at rb;obtain⟨⟨⟨b1,b2⟩,b3⟩,b4⟩:=rb;have all:=V91 (P:=P) (w:=w) X Gn Q ok bd bm hR hT F0;refine t71 (G:=lev ⟨D20 rows,nums,F0,clsAt K,0⟩ (tabOf rows) (k + 2)) (F':=Z90 (tabOf rows) (k + 3)) (all (k + 2)) F1 (b91 b4) b3 b1 b2 (λhlm=>?_) λl z=>?_
 ·obtain⟨fR,fdR,L⟩:=u81 (P:=P) (w:=w) X Gn Q bm hR hr hlm;exact⟨k,fR,fdR,rfl,L,hT r hr hlm fd hfd,λf nm ps h=>(all k).gok f nm ps h⟩
 ·show(match (tabOf rows)[i]? with | some d=>run (Z90 (tabOf rows) (k + 2)) d l | none=>M.no) z=_
  unfold tabOf;rw[à,hi];rfl
end
theorem u91{P:ß}{w:ò}{K:Á}{mg mb:Str->Option Ã}{k:Nat}{fa a:Æ}{fd:Ä8}{x:Str}{sp:Sp}{s₁:Å}{vs:List Ã}{ns:List Int}{ts:List Æ}
  (KX:K.In s₁.heap) (hns:s₁.heap.Ns æ mg) (hb:s₁.heap.Ns Ì8 mb) (hbb:∀ x:Str,x≠"__name__"->mb x=ð x) (hlim:s₁.heap.NoLimit) (hg:s₁.gens=#[])
  (ha:s₁.heap.get? a=some { cls:=.type "list",data:=.seq vs.toArray }) (hi:Ê4 vs ns) (hl:ns.length<=sizeLine) (hr:x40 k Û0)
  (hT:∀ Pt∈ts,s₁.heap.get? Pt=some (Ç5 #[])/\K.lookup Pt=none/\∃ c,Ä0 K c Pt=true) (bmn:BMain mg s₁.heap)
  (F:∀ base:ë,K.In base->base.Ns æ mg->BMain mg base->S00 P w K mg base CX0 k fa fd [x] sp) (hbind:∀ (s:Å) (u:Ã),BindsTo s fd ⟨[u],[]⟩ [(x,u)])
  (hsp:∀ H:Hp,(∀ Pt∈ts,H Pt=some (.tbl #[]))->p50 K H a (ns.map V.int)->sp [.ref a] H (λv _=>v=.bl true) λ_ _ _=>False) :
  Í3 (Ü P w) Û0 (.call (.ref fa) ⟨[.ref a],[]⟩) (λr s'=>r=.ok (.ret (.bool true))/\OldK s₁.heap s'.heap/\s'.os=s₁.os/\Ò1 s'.gens) s₁:=by
 have rv:=N00 hi;have lenV:=hi.length;have naT:a ∉ ts:=λh=>by have:=(hT a h).1;rw[ha] at this;cases this
 have core:∀ H:Hp,(∀ Pt∈ts,H Pt=some (.tbl #[]))->(∀ b,H b=none∨b∈ts∨(b=a/\∃ xs,H b=some (.frz { cls:=.type "list",data:=.seq vs.toArray } (.lst xs))))->p50 K H a (ns.map V.int)->HOk P w H s₁.heap->(H a≠none->K.lookup a=none) ->
   Í3 (Ü P w) Û0 (.call (.ref fa) ⟨[.ref a],[]⟩) (λr s'=>r=.ok (.ret (.bool true))/\OldK s₁.heap s'.heap/\s'.os=s₁.os/\Ò1 s'.gens) s₁:=by
  intro H hH hO hS hok hK;have plainN:∀ {b:Æ}{o:Obj},s₁.heap.get? b=some o->(∀ xs n,o.data≠.seq xs n)->(∀ xs,o.data≠.fields xs)->H b=none:=λ{b o} e d1 d2=>by
   rcases hO b with z | z | ⟨z,_⟩
   ·exact z
   ·have:=(hT b z).1;rw[e] at this;cases this;exact absurd rfl (d2 _)
   ·rw[z,ha] at e;cases e;exact absurd rfl (d1 _ _)
  have nsK:∀ {b:Æ}{m:Str->Option Ã},s₁.heap.Ns b m->(z51 s₁.heap H).Ns b m:=λ{b m} ⟨o,es,ep,e,d,r⟩=>⟨o,es,ep,G10 e (plainN e (λxs n z=>by rw[d] at z;cases z) λxs z=>by rw[d] at z;cases z),d,r⟩
  have hKb:K.In (z51 s₁.heap H):=λb o e=>G10 (KX b o e) (by
   rcases hO b with z | z | ⟨z,xs,z2⟩
   ·exact z
   ·rw[(hT b z).2.1] at e;cases e
   ·rw[z] at e z2;rw[hK (by rw[z2];exact λy=>nomatch y)] at e;cases e)
  have hM:Mod K mg (z51 s₁.heap H):=⟨hKb,nsK hns,⟨mb,nsK hb,hbb⟩,let ⟨mc,h1,h2⟩:=hlim;⟨mc,nsK h1,h2⟩⟩;have hBM:BMain mg (z51 s₁.heap H):=by
   obtain⟨bm,ob,b1,b2,b3,b4,b5,b6⟩:=bmn;exact⟨bm,ob,b1,b2,G10 b3 (plainN b3 (λxs n z=>by rw[b6] at z;cases z) λxs z=>by rw[b6] at z;cases z),b4,b5,b6⟩
  have e0:N31 P w K mg (z51 s₁.heap H) Û0 [] s₁ H:=⟨rfl,hM,λb o e=>M81 e,Ø6 (j71 _ _),trivial,λb hb=>absurd (show b∈([]:List Æ) from hb) (by simp),hok,.of_eq hg⟩
  refine Ë7 ((F _ hKb (nsK hns) hBM).run Û0 [] s₁ H ⟨[.ref a],[]⟩ [.ref a] [.ref a] _ _ hr e0 (hbind s₁ (.ref a)) (.cons rfl .nil) (hsp H hH hS)) λr s' h=>?_;cases r with
  |error e=>exact ý h
  |ok fl =>
   cases fl with
   |next=>exact ý h
   |brk=>exact ý h|cont=>exact ý h
   |ret u =>
    obtain⟨v,H',os,bare,un,hok',r',q⟩:=h;have q':v=.bl true:=q;subst q';obtain rfl:u=Ç7 true:=r';refine⟨rfl,⟨λb o e=>?_,λb o e=>un.there b o e (by simp)⟩,os,bare⟩
    rcases hO b with z | z | ⟨z,xs,z2⟩
    ·exact .inl (un.keep b o e z (by intro y;exact absurd (show b∈([]:List Æ) from y) (by simp)) (by simp))
    ·obtain⟨t1,_,c,t2⟩:=hT b z;rw[e] at t1;cases t1;obtain⟨more,m1⟩:=un.tbls b _ (hH b z);have m2:s'.heap.get? b=some { cls:=.none,data:=.fields (#[]++more) }:=hok' b _ m1;have CH:=codeHd_of_K KX t2;exact .inr (.inl ⟨(CH.tab e).isCodeTable,rfl,#[],more,rfl,m2⟩)
    ·have z3:=un.frzs b _ _ z2;obtain⟨e1,_⟩:=hok b _ z2;obtain⟨e2,_⟩:=hok' b _ z3;rw[e] at e1;cases e1;exact .inl e2
 cases hk:K.lookup a with
 |some o =>
  have e:=KX a o hk;rw[ha] at e;cases e;refine core (λb=>if b∈ts then some (.tbl #[]) else none) (λPt h=>if_pos h) (λb=>?_) (.inr ⟨vs.toArray,_,hk,by rw[Õ,lenV];exact hl,by simpa using rv⟩) (λb u z=>?_) λz=>absurd (if_neg naT) z
  ·by_cases h:b∈ts
   ·exact .inr (.inl h)
   ·exact .inl (if_neg h)
  ·by_cases h:b∈ts
   ·have z':=(if_pos h).symm.trans z;cases z';exact(hT b h).1
   ·have z':=(if_neg h).symm.trans z;cases z'
 |none =>
  refine core (λb=>if b=a then some (.frz { cls:=.type "list",data:=.seq vs.toArray } (.lst (ns.map V.int))) else if b∈ts then some (.tbl #[]) else none) (λPt h=>?_) (λb=>?_) (.inl (.inr ⟨{ cls:=.type "list",data:=.seq vs.toArray },if_pos rfl⟩)) (λb u z=>?_) λ_=>hk
  ·rw[if_neg (λy=>naT (by rw[← y];exact h)),if_pos h]
  ·by_cases hb:b=a
   ·exact .inr (.inr ⟨hb,_,if_pos hb⟩)
   ·by_cases h:b∈ts
    ·exact .inr (.inl h)
    ·exact .inl (by rw[if_neg hb,if_neg h])
  ·by_cases hb:b=a
   ·have z':=(if_pos hb).symm.trans z;cases z';subst hb;exact⟨ha,by rw[Ç];exact hl,vs,_,rv,ha⟩
   ·replace z:=(if_neg hb).symm.trans z
    by_cases h:b∈ts
    ·have z':=(if_pos h).symm.trans z;cases z';exact(hT b h).1
    ·have z':=(if_neg h).symm.trans z;cases z'
theorem H11{l:PySem.W.OpenLaw}{n k:Nat}{q:ß}{loose:List Str}{XP:(Str->Option Ã)->ë->Prop}{d:DefRec}{A:m00}{x:Str}
  (hn:l.most=some n) (hn2:n<=sizeLine) (hdf:d.params.defaults=[]) (hr:x40 k Û0)
  (F:∀ (w:ò) (mg:Str->Option Ã) (fa:Æ) (h:ë) (K:Á),Facts A K h->K.In h->h.Ns æ mg->mg d.name=some (.ref fa) ->
   ∃ (fd:Ä8) (ts:List Æ) (sp:Sp),(∀ Pt∈ts,h.get? Pt=some (Ç5 #[])/\K.lookup Pt=none/\∃ c,Ä0 K c Pt=true)/\(∀ (s:Å) (u:Ã),BindsTo s fd ⟨[u],[]⟩ [(x,u)]) /\
    (∀ base:ë,K.In base->base.Ns æ mg->BMain mg base->S00 l.prog w K mg base CX0 k fa fd [x] sp) /\
    ∀ (H:Hp) (a:Æ) (ns:List Int),ns.length<=n->(∀ Pt∈ts,H Pt=some (.tbl #[]))->p50 K H a (ns.map V.int)->sp [.ref a] H (λv _=>v=.bl true) λ_ _ _=>False) :
  PySem.W.WalkO q loose XP A.hook.says l.row.toRowW d [] (λf vs=>PySem.call f vs):=by
 refine Att.S80 hn hdf λw s₀ s₁ mg mb fa o pm cd doc a vs ns G Y ho hd hcd hmg hobj hints hlen hg=>?_;obtain⟨K,KX,FX⟩:=Y;obtain⟨fd,ts,sp,hT,hb,hF,hsp⟩:=F w mg fa _ K FX KX G.T.g hmg;exact u91 KX G.T.g G.T.b G.T.builtins G.T.nolimit hg hobj hints (Ò hlen hn2) hr hT G.T.bmain hF hb λH hH hS=>hsp H a ns hlen hH hS
theorem W01{l:PySem.W.OpenLaw}{rows:List Row}{nums:List (Str × Int)}{mn:List Str}{ex:List (Str × Å0)}{k iL n:Nat}{rL:Row}(ok:rows.all (a42 (D20 rows) nums)=true)(bd:n00 rows)(hL:rows[iL]?=some rL)(hn:rL.nm="law")(hp:rL.ps=[("_law_script":Str)])(hmn:mn.length<=1)(hR:n32 rows mn ex)
  (pure:∀ ns:List Int,ns.length<=n->c00 (tabOf rows) (k + 3) iL [.d (.lst (ns.map D.int))] none=some (.ok (.d (.bl true)) none)) (w:ò) (mg:Str->Option Ã) (fa:Æ) (h:ë) (K:Á) (Q:Facts (E50 rows nums mn ex) K h) (X:K.In h) (Gn:h.Ns æ mg) (hfa:mg "law"=some (.ref fa)) :
   ∃ (fd:Ä8) (ts:List Æ) (sp:Sp),(∀ Pt∈ts,h.get? Pt=some (Ç5 #[])/\K.lookup Pt=none/\∃ c,Ä0 K c Pt=true)/\(∀ (s:Å) (u:Ã),BindsTo s fd ⟨[u],[]⟩ [("_law_script",u)]) /\
    (∀ base:ë,K.In base->base.Ns æ mg->BMain mg base->S00 l.prog w K mg base CX0 (k + 3) fa fd ["_law_script"] sp) /\
    ∀ (H:Hp) (a:Æ) (ns:List Int),ns.length<=n->(∀ Pt∈ts,H Pt=some (.tbl #[]))->p50 K H a (ns.map V.int)->sp [.ref a] H (λv _=>v=.bl true) λ_ _ _=>False:=by
 have hrL:rL∈rows:=ì hL;obtain⟨fL,fdL,aL,FL,ocL,odL,slL,lkL⟩:=Q.fn (rL.nm,rL.st) (Ã7 _ (Î.mpr ⟨rL,hrL,rfl⟩));have bL:=bd.at hrL;have e:=hfa.symm.trans (mg_of X Gn (by rw[← hn];exact aL))
 cases e;have bT:∀ (s:Å) (u:Ã),BindsTo s fdL ⟨[u],[]⟩ [("_law_script",u)]:=by
  obtain⟨_,_,kV,doc,pm,an,cdv,ct,_,e,_,_⟩:=FL.ex;subst e;intro s u;have:=bL kV doc pm an cdv ct [u] (by rw[hp];rfl)
  rw[hp] at this;exact .of_eq this
 have fin:∀ (TB:Tb) (ts:List Æ),(∀ p∈TB.tb,p.1∈ts)->(∀ Pt∈ts,h.get? Pt=some (Ç5 #[])/\K.lookup Pt=none/\∃ c,Ä0 K c Pt=true)->B42 K rows ->
   ∃ (fd:Ä8) (ts:List Æ) (sp:Sp),(∀ Pt∈ts,h.get? Pt=some (Ç5 #[])/\K.lookup Pt=none/\∃ c,Ä0 K c Pt=true)/\(∀ (s:Å) (u:Ã),BindsTo s fd ⟨[u],[]⟩ [("_law_script",u)]) /\
    (∀ base:ë,K.In base->base.Ns æ mg->BMain mg base->S00 l.prog w K mg base CX0 (k + 3) fa fd ["_law_script"] sp) /\
    ∀ (H:Hp) (a:Æ) (ns:List Int),ns.length<=n->(∀ Pt∈ts,H Pt=some (.tbl #[]))->p50 K H a (ns.map V.int)->sp [.ref a] H (λv _=>v=.bl true) λ_ _ _=>False:=λTB ts h1 h2 h3=>by
  refine⟨fdL,ts,λvs H Q _=>spF K (lev ⟨D20 rows,nums,λ_ _ _=>M.no,clsAt K,0⟩ (tabOf rows) (k + 3)) iL 1 vs H Q λ_ _ _=>False,h2,bT,λbase kb nb bm=>?_,λH a ns hl hH hS=>m92 (pure ns hl) (λp hp=>hH p.1 (h1 p hp)) hS⟩;have F:=ok0 (n42 (P:=l.prog) (w:=w) X Gn Q ok bd bm hR h3 (λ_ _ _=>M.no) k hL FL ⟨fa,ocL,odL,slL,aL,lkL⟩);rw[hp] at F;exact F
 match mn,hmn,Q with
 |[],_,Q =>
  exact fin ⟨[]⟩ [] (λp hp=>by cases hp) (λp hp=>by cases hp) λr hr hlm=>by
   have:=(hR r hr hlm).1;cases this
 |[m],_,Q =>
  obtain⟨T,t1,t2,f,oc,od,fd,sl,c,t3,t4,t5,t6⟩:=Q.mt m (.head _);refine fin ⟨[(T,E42 m)]⟩ [T] (λp hp=>?_) (λp hp=>?_) λr hr hlm fd' h'=>?_
  ·cases í.mp hp;exact .head _
  ·cases í.mp hp;exact⟨t1,t2,c,t6⟩
  ·have hm:r.nm=m:=í.mp (hR r hr hlm).1;rw[hm] at h' ⊢;obtain⟨f',oc',od',sl',e1,e2⟩:=h';rw[t3] at e1;cases e1;rw[t4] at e2;cases e2;exact⟨c,T,E42 m,t5,t6,λ_ _ _ _=>rfl,.head _,λp hp _=>by cases í.mp hp;rfl⟩
end Q
namespace Q
open L2 (D)
open PySem (Paired)
def c01:Ex->Bool
 |.var _=>false|_=>true
def N32:Ex->Env->Option (Option S)
 |.var i,ρ=>ρ[i]?|_,_=>none
def E52:Option (Option S)->Option S
 |some (some s)=>noS s|_=>none
def blS:S->Option Bool
 |.d (.bl b)=>some b|_=>none
abbrev Du{α:Type}(_:α->Z->Prop)(_:Nat->Z->Prop):Type:=Unit
abbrev Dv{α:Type}(_:α->Prop):Type:=Unit
structure W{α:Type}(m:M α)(z:Z)(Q:α->Z->Prop)(E:Nat->Z->Prop)(du:Du Q E:=()):Prop where
 ex:∃ r,m z=some r/\match r with
  |.ok a z1=>Q a z1|.er c z1=>E c z1
theorem W_e{α:Type}{m:M α}{Q:α->Z->Prop}:W m z Q E↔∃ r,m z=some r/\match r with
  |.ok a z1=>Q a z1|.er c z1=>E c z1:=⟨W.ex,W.mk⟩
abbrev NE:Nat->Z->Prop:=λ_ _=>False
def Get{α:Type}(o:Option α)(P:α->Prop)(_:Dv P:=()):Prop:=match o with
 |some a=>P a|none=>False
theorem n52{α:Type}{a:α}{P:α->Prop}:Get (some a) P↔P a:=Ô9
theorem t00{α:Type}{o:Option α}{P:α->Prop}(h:Get o P):∃ a,o=some a/\P a:=by
 cases o with
 |none=>exact h.elim|some a=>exact⟨a,rfl,h⟩
theorem a00{α:Type}{o:Option α}{a:α}{P:α->Prop}(h:o=some a)(hp:P a):Get o P:=by rw[h];exact hp
theorem v01{α:Type}{o:Option α}{P P':α->Prop}(h:∀ a,P a↔P' a):Get o P↔Get o P':=by
 cases o with
 |none=>exact Ô9|some a=>exact h a
section
variable {α β:Type}{m:M α}{z z1:Z}{Q Q':α->Z->Prop}{E E':Nat->Z->Prop}
theorem W.mono(h:W m z Q E)(hq:∀ a z,Q a z->Q' a z)(he:∀ c z,E c z->E' c z):W m z Q' E':=by
 obtain⟨r,e,h⟩:=h;refine⟨r,e,?_⟩;cases r with
 |ok a z1=>exact hq _ _ h|er c z1=>exact he _ _ h
theorem W.imp(h:W m z Q NE)(hq:∀ a z,Q a z->Q' a z):W m z Q' E':=h.mono hq λ_ _ h=>h.elim
theorem W.ok{a:α}(h:W m z (λb z2=>b=a/\z2=z1) NE):m z=some (.ok a z1):=by
 obtain⟨r,e,h⟩:=h;cases r with
 |ok b z2=>obtain⟨rfl,rfl⟩:=h;exact e
 |er c z2=>exact h.elim
theorem W.er(h:W m z (λ_ _=>False) (λd z2=>d=c/\z2=z1)):m z=some (.er c z1):=by
 obtain⟨r,e,h⟩:=h;cases r with
 |ok b z2=>exact h.elim|er d z2=>obtain⟨rfl,rfl⟩:=h;exact e
theorem E62{a:α}(h:m z=some (.ok a z1)):W m z Q E↔Q a z1:=by
 rw[W_e];constructor
 ·rintro ⟨r,e,q⟩;rw[h] at e;cases e;exact q
 ·exact λq=>⟨_,h,q⟩
theorem N42{c:Nat}(h:m z=some (.er c z1)):W m z Q E↔E c z1:=by
 rw[W_e];constructor
 ·rintro ⟨r,e,q⟩;rw[h] at e;cases e;exact q
 ·exact λq=>⟨_,h,q⟩
theorem W30{a:α}:W (M.ret a) z Q E↔Q a z:=E62 rfl
theorem n62:W (M.no:M α) z Q E↔False:=⟨λ⟨_,e,_⟩=>(by cases e),ý⟩
theorem E60{f:α->M β}{Q:β->Z->Prop}:W (M.bind m f) z Q E↔W m z (λa z1=>W (f a) z1 Q E) E:=by
 constructor
 ·rintro ⟨r,e,q⟩;unfold M.bind at e;split at e
  ·rename_i a z1 e1;exact⟨_,e1,r,e,q⟩
  ·rename_i c z1 e1;cases e;exact⟨_,e1,q⟩
  ·cases e
 ·rintro ⟨r,e,q⟩;cases r with
  |ok a z1 =>
   obtain⟨r,e2,q⟩:=q;refine⟨r,?_,q⟩;unfold M.bind;rw[e];exact e2
  |er c z1 =>
   refine⟨.er c z1,?_,q⟩;unfold M.bind;rw[e]
theorem L51:W (M.calm m) z Q E↔W m z Q NE:=by
 rw[W_e,W_e];unfold M.calm;constructor
 ·rintro ⟨r,e,q⟩;split at e
  ·rename_i a z1 e1;cases e;exact⟨_,e1,q⟩
  ·cases e
 ·rintro ⟨r,e,q⟩;cases r with
  |ok a z1=>exact⟨.ok a z1,by rw[e],q⟩|er c z1=>exact q.elim
theorem W11(h:∀ a z,Q a z↔Q' a z):W m z Q E↔W m z Q' E:=⟨λx=>x.mono (λa z=>(h a z).mp) λ_ _ h=>h,λx=>x.mono (λa z=>(h a z).mpr) λ_ _ h=>h⟩
theorem wR{a:α}:Q a z↔W (M.ret a) z Q E:=W30.symm
theorem wN:False↔W (M.no:M α) z Q E:=n62.symm
theorem wT{c:Prop}[Decidable c]{a b:M α}{A B:Prop}(h1:A↔W a z Q E)(h2:B↔W b z Q E):(if c then A else B)↔W (if c then a else b) z Q E:=by
 split <;> assumption
theorem wG{o:Option β}{f:β->M α}{K:β->Prop}(h:∀ a,K a↔W (f a) z Q E):Get o K↔W (M.bind (M.of o) f) z Q E:=by
 cases o with
 |none=>exact n62.symm|some a=>exact h a
theorem wB{m:M β}{f:β->M α}{V:Prop}{K:β->Z->Prop}(h1:V↔W m z K E)(h2:∀ a z1,K a z1↔W (f a) z1 Q E):V↔W (M.bind m f) z Q E:=h1.trans ((W11 h2).trans E60.symm)
end
def Wm{α:Type}(o:Option (R α))(Q:α->Z->Prop)(E:Nat->Z->Prop):Prop:=match o with
 |some (.ok a z1)=>Q a z1|some (.er c z1)=>E c z1|none=>False
theorem wM{α:Type}{m:M α}{z:Z}{Q:α->Z->Prop}{E:Nat->Z->Prop}:Wm (m z) Q E↔W m z Q E:=by
 rw[W_e];unfold Wm;cases h:m z with
 |none=>exact⟨ý,λ⟨_,e,_⟩=>by cases e⟩
 |some r =>
  refine⟨λq=>⟨r,rfl,?_⟩,λ⟨_,e,q⟩=>?_⟩
  ·cases r <;> exact q
  ·cases e;cases r <;> exact q
def Vr(o:Option (Option S))(z:Z)(Q:List S->Z->Prop)(_:Du Q NE:=()):Prop:=match o with
 |some (some s)=>Q [plS s] z|_=>False
def WV:FT->Ex->Env->Z->(List S->Z->Prop)->(Nat->Z->Prop)->Prop
 |F,.nil=>λρ z Q E=>Q [] z|F,.cons a r=>λρ z Q E=>WV F a ρ z (λx z1=>Get (one x) λs=>WV F r ρ z1 (λy z2=>Q (s::y) z2) E) E|F,.con x=>λρ z Q E=>Q [.d x] z|F,.gint g i=>λρ z Q E=>Q [.d (.int i)] z|F,.tup as=>λρ z Q E=>WV F as ρ z (λl z1=>Get (plA l) λds=>if ds.length<=most then Q [.d (.tup ds)] z1 else False) E|F,.lst as=>λρ z Q E=>WV F as ρ z (λl z1=>Get (plA l) λds=>if ds.length<=most then Q [.fr ds] z1 else False) E|F,.bin o a b=>λρ z Q E=>WV F a ρ z (λx z1=>Get (pl x) λdx=>WV F b ρ z1 (λy z2=>Get (pl y) λdy=>Get (T90 o dx dy) λs=>Q [s] z2) E) E|F,.cmp o a b=>λρ z Q E=>WV F a ρ z (λx z1=>Get (pl x) λdx=>WV F b ρ z1 (λy z2=>Get (pl y) λdy=>Get (C80 o dx dy) λt=>Q [.d (.bl t)] z2) E) E|F,.neg a=>λρ z Q E=>WV F a ρ z (λx z1=>Get ((pl x).bind asI) λi=>Q [.d (.int (-i))] z1) E|F,.not a=>λρ z Q E=>WV F a ρ z (λx z1=>Get ((pl x).bind asB) λb=>Q [.d (.bl !b)] z1) E|F,.and a b=>λρ z Q E=>WV F a ρ z (λx z1=>Get ((pl x).bind asB) λc=>if c then WV F b ρ z1 (λy z2=>Get ((pl y).bind asB) λc=>Q [.d (.bl c)] z2) E else Q [.d (.bl false)] z1) E|F,.or a b=>λρ z Q E=>WV F a ρ z (λx z1=>Get ((pl x).bind asB) λc=>if c then Q [.d (.bl true)] z1 else WV F b ρ z1 (λy z2=>Get ((pl y).bind asB) λc=>Q [.d (.bl c)] z2) E) E|F,.orT a b=>λρ z Q E=>WV F a ρ z (λx z1=>Get ((pl x).bind f72) λl=>if l.isEmpty then WV F b ρ z1 (λy z2=>Get ((pl y).bind f72) λl=>Q [.d (.tup l)] z2) NE else Q [.d (.tup l)] z1) NE|F,.ite c a b=>λρ z Q E=>WV F c ρ z (λx z1=>Get ((pl x).bind asB) λc=>if c then WV F a ρ z1 Q E else WV F b ρ z1 Q E) E|F,.ch o o' a b c=>λρ z Q E=>WV F a ρ z (λx z1=>Get (pl x) λdx=>WV F b ρ z1 (λy z2=>Get (pl y) λdy=>Get (C80 o dx dy) λt=>if t then WV F c ρ z2 (λw z3=>Get (pl w) λdw=>Get (C80 o' dy dw) λt=>Q [.d (.bl t)] z3) E else Q [.d (.bl false)] z2) E) E|F,.bf f as=>λρ z Q E=>WV F as ρ z (λl z1=>Get (plA l) λds=>Get (bfD f ds) λs=>Q [s] z1) E|F,.isi t a=>λρ z Q E=>WV F a ρ z (λx z1=>Get (pl x) λx=>Q [.d (.bl (Z71 t x))] z1) E|F,.idx a i=>λρ z Q E=>WV F a ρ z (λx z1=>Get (pl x) λdx=>WV F i ρ z1 (λy z2=>Get (pl y) λdy=>Get (L40 dx dy) λr=>Q [.d r] z2) E) E|F,.sl a lo hi=>λρ z Q E=>WV F a ρ z (λx z1=>Get (pl x) λdx=>WV F lo ρ z1 (λu z2=>Get (p21 u) λu=>WV F hi ρ z2 (λv z3=>Get (p21 v) λv=>Get (slD dx u v) λs=>Q [s] z3) E) E) E|F,.call f as=>λρ z Q E=>WV F as ρ z (λl z1=>W (F false f (l.map plS)) z1 (λs z2=>Q [s] z2) E) E|F,.comp own capt p it src cond el=>λρ z Q E=>WV F src ρ z (λl z1=>Get ((plA l).bind (itD it)) λxs=>if xs.length<=most then W (turns (u90 (ev F cond) (ev F el) p (ï own none++capt.map λi=>(ρ[i]?).getD none)) xs) z1 (λys z2=>Q [.fr ys] z2) NE else False) E|F,.lrng b as=>λρ z Q E=>WV F as ρ z (λl z1=>Get ((plA l).bind lrD) λxs=>Q [lrS b xs] z1) E|F,.dkeys a=>λρ z Q E=>WV F a ρ z (λl z1=>Get ((pl l).bind R01) λkss=>Q [.ks kss] z1) E|F,.memk o a i=>λρ z Q E=>WV F a ρ z (λl z1=>Get ((pl l).bind Z81) λk=>Get (v32 ρ[i]?) λkss=>Q [.d (.bl (kss.contains k == o))] z1) E|F,.refd capt a=>λρ z Q E=>Get (E51 ρ capt) λss=>WV (λ_=>F true) a (ss.map some) z (λ_ _=>False) (λc z1=>if c < 12 then Q [.fr [.int c]] z1 else False)|F,.var i=>λρ z Q E=>Vr ρ[i]? z Q|F,.zget i k=>λρ z Q E=>Wm (p31 k ρ[i]? z) Q E
def WE(F:FT)(e:Ex)(ρ:Env)(z:Z)(Q:List S->Z->Prop)(E:Nat->Z->Prop)(_:Du Q E:=()):Prop:=WV F e ρ z Q E
def WX(F:FT)(tp:Bool):Sm->Env->Z->(O->Z->Prop)->(Nat->Z->Prop)->Prop
 |.nil=>λρ z Q E=>Q (.nx ρ) z
 |.seq s r=>λρ z Q E=>WX F tp s ρ z (λo z1=>match o with
  |.nx ρ=>WX F tp r ρ z1 Q E
  |.rt s=>Q (.rt s) z1) E
 |.set p e=>λρ z Q E=>WE F e ρ z (λl z1=>Get (one l) λs=>Get (I70 p s (k40 s ρ)) λρ'=>Q (.nx ρ') z1) E|.ret e=>λρ z Q E=>if c01 e then WE F e ρ z (λl z1=>Get ((one l).bind noS) λs=>Q (.rt s) z1) E else Get (E52 (N32 e ρ)) λs=>Q (.rt s) z|.iff c t e=>λρ z Q E=>WE F c ρ z (λx z1=>Get ((pl x).bind asB) λb=>if b then WX F tp t ρ z1 Q E else WX F tp e ρ z1 Q E) E|.exp e=>λρ z Q E=>WE F e ρ z (λl z1=>Get (one l) λ_=>Q (.nx ρ) z1) E|.rais c=>λρ z Q E=>E c z|.fr p it src b=>λρ z Q E=>WE F src ρ z (λl z1=>Get ((plA l).bind (itD it)) λxs=>W (S10 (λx ρ=>M.bind (M.of (f20 p x ρ)) λρ=>ex F tp b ρ) xs (p51 it src l ρ)) z1 Q E) E|.whl c b=>λρ z Q E=>W (K11 (ev F c) (ex F tp b) Z91 ρ) z Q E|.zset i e=>λρ z Q E=>WE F e ρ z (λl z1=>Get ((pl l).bind asI) λv=>Wm (p81 ρ v ρ[i]? z1) Q E) E|.app i e=>λρ z Q E=>Get (ownAt ρ i) λxs=>WE F e ρ z (λl z1=>Get (pl l) λx=>if bare x=true/\xs.length < most then Q (.nx (ρ.set i (some (.fr (xs++[x]))))) z1 else False) E|.apop i j e=>λρ z Q E=>Get (ownAt ρ i) λxs=>Get (ownAt ρ j) λys=>WE F e ρ z (λl z1=>Get ((pl l).bind asI) λk=>Get (p61 ρ i j xs ys k) λo=>Q o z1) E|.newz i f as=>λρ z Q E=>WE F (.call f as) ρ z (λl z1=>Wm (p71 tp ρ i l) Q E) E
def WS(F:FT)(tp:Bool)(s:Sm)(ρ:Env)(z:Z)(Q:O->Z->Prop)(E:Nat->Z->Prop)(_:Du Q E:=()):Prop:=WX F tp s ρ z Q E
theorem n72:W (ev F (.refd capt a) ρ) z Q E↔Get (E51 ρ capt) λss=>W (ev (A20 F) a (ss.map some)) z (λ_ _=>False) (λc z1=>if c < 12 then Q [.fr [.int c]] z1 else False):=by
 show W (g12 (E51 ρ capt) λρ'=>ev (A20 F) a ρ') z Q E↔_;rw[W_e];unfold g12;constructor
 ·rintro ⟨r,e,q⟩;split at e
  ·cases e
  ·rename_i ss h1;split at e
   ·rename_i c z1 h2;split at e
    ·rename_i h3;cases e;refine a00 h1 ⟨_,h2,?_⟩;dsimp only;rw[if_pos h3];exact q
    ·cases e
   ·cases e
 ·intro h;obtain⟨ss,h1,r,h2,q⟩:=t00 h;cases r with
  |ok a z1=>exact q.elim
  |er c z1 =>
   dsimp only at q;split at q
   ·rename_i h3;refine⟨.ok [.fr [.int c]] z1,?_,q⟩;rw[h1];dsimp only;rw[h2];dsimp only;rw[if_pos h3]
   ·exact q.elim
theorem n82:∀ (e:Ex) {F:FT}{ρ:Env}{z:Z}{Q:List S->Z->Prop}{E:Nat->Z->Prop},WV F e ρ z Q E↔W (ev F e ρ) z Q E:=by
 intro e
 induction e with
 |nil=>intros;exact wR|cons a r ha hr=>intros;exact wB ha λx z1=>wG λs=>wB hr λy z2=>wR
 |var i =>
  intro F ρ z Q E;show Vr ρ[i]? z Q↔W (match ρ[i]? with | some (some s)=>M.ret [plS s] | _=>M.no) z Q E
  generalize ρ[i]?=o
  match o with
  |some (some s)=>exact wR|some none=>exact wN|none=>exact wN
 |con x=>intros;exact wR|gint g i=>intros;exact wR|tup a ha=>intros;exact wB ha λl z1=>wG λds=>wT wR wN|lst a ha=>intros;exact wB ha λl z1=>wG λds=>wT wR wN|bin o a b ha hb=>intros;exact wB ha λx z1=>wG λdx=>wB hb λy z2=>wG λdy=>wG λs=>wR|cmp o a b ha hb=>intros;exact wB ha λx z1=>wG λdx=>wB hb λy z2=>wG λdy=>wG λs=>wR|neg a ha=>intros;exact wB ha λx z1=>wG λi=>wR|not a ha=>intros;exact wB ha λx z1=>wG λi=>wR|and a b ha hb=>intros;exact wB ha λx z1=>wG λc=>wT (wB hb λy z2=>wG λc=>wR) wR|or a b ha hb=>intros;exact wB ha λx z1=>wG λc=>wT wR (wB hb λy z2=>wG λc=>wR)|orT a b ha hb=>intros;refine Iff.trans ?_ L51.symm;exact wB ha λx z1=>wG λl=>wT (wB hb λy z2=>wG λl=>wR) wR|ite c a b hc ha hb=>intros;exact wB hc λx z1=>wG λc=>wT ha hb|ch o o' a b c ha hb hc=>intros;exact wB ha λx z1=>wG λdx=>wB hb λy z2=>wG λdy=>wG λt=>wT (wB hc λw z3=>wG λdw=>wG λt=>wR) wR|bf f a ha=>intros;exact wB ha λl z1=>wG λds=>wG λs=>wR|isi t a ha=>intros;exact wB ha λx z1=>wG λx=>wR|idx a i ha hi=>intros;exact wB ha λx z1=>wG λdx=>wB hi λy z2=>wG λdy=>wG λr=>wR|sl a l h ha hl hh=>intros;exact wB ha λx z1=>wG λdx=>wB hl λu z2=>wG λu=>wB hh λv z3=>wG λv=>wG λs=>wR|call f a ha=>intros;exact wB ha λl z1=>wB Ô9 λs z2=>wR|comp own capt p it src cond el hs hc he=>intros;exact wB hs λl z1=>wG λxs=>wT (wB L51.symm λys z2=>wR) wN|zget i k=>intros;exact wM (m:=p31 k _)|lrng b a ha=>intros;exact wB ha λl z1=>wG λxs=>wR|dkeys a ha=>intros;exact wB ha λl z1=>wG λxs=>wR|memk o a i ha=>intros;exact wB ha λl z1=>wG λk=>wG λxs=>wR|refd capt a ha=>intros;exact(v01 λss=>ha).trans n72.symm
theorem d90{e:Ex}{F:FT}{ρ:Env}{z:Z}{Q:List S->Z->Prop}{E:Nat->Z->Prop}:WE F e ρ z Q E↔W (ev F e ρ) z Q E:=n82 e
theorem B52{F:FT}{tp:Bool}{ρ:Env}{e:Ex}(h:c01 e=true):ex F tp (.ret e) ρ=M.bind (ev F e ρ) λl=>M.bind (M.of ((one l).bind noS)) λs=>M.ret (.rt s):=by
 cases e with
 |var i=>cases h
 |_=>rfl
theorem n92{F:FT}{tp:Bool}:∀ (s:Sm) {ρ:Env}{z:Z}{Q:O->Z->Prop}{E:Nat->Z->Prop},WX F tp s ρ z Q E↔W (ex F tp s ρ) z Q E:=by
 intro s
 induction s with
 |nil=>intros;exact wR
 |seq s r hs hr =>
  intros;refine wB hs λo z1=>?_;cases o with
  |nx ρ=>exact hr|rt s=>exact wR
 |set p e=>intros;exact wB d90 λl z1=>wG λs=>wG λρ'=>wR
 |ret e =>
  intro ρ z Q E;show(if c01 e then _ else _)↔_;cases h:c01 e with
  |true =>
   refine(iff_of_eq (if_pos rfl)).trans ?_;rw[B52 h];exact wB d90 λl z1=>wG λs=>wR
  |false =>
   cases e with
   |var i =>
    refine(iff_of_eq (if_neg Ð)).trans ?_;show Get (E52 ρ[i]?) _↔W (match ρ[i]? with | some (some s)=>M.bind (M.of (noS s)) λs=>M.ret (O.rt s) | _=>M.no) z Q E
    generalize ρ[i]?=o
    match o with
    |some (some s)=>exact wG λs=>wR|some none=>exact wN|none=>exact wN
   |_=>cases h
 |iff c t u ht hu=>intros;exact wB d90 λx z1=>wG λc=>wT ht hu|exp e=>intros;exact wB d90 λl z1=>wG λs=>wR|rais c=>intros;exact(N42 rfl).symm|fr p it src b ih=>intros;exact wB d90 λl z1=>wG λxs=>Ô9|whl c b ih=>intros;exact Ô9|zset i e=>intros;exact wB d90 λl z1=>wG λv=>wM (m:=p81 _ v _)|app i e=>intros;exact wG λxs=>wB d90 λl z1=>wG λx=>wT wR wN|apop i j e=>intros;exact wG λxs=>wG λys=>wB d90 λl z1=>wG λk=>wG λo=>wR|newz i f as=>intros;exact wB d90 λl z1=>wM (m:=λ_=>p71 tp _ i l)
theorem P90:WS F tp s ρ z Q E↔W (ex F tp s ρ) z Q E:=n92 s
theorem WS.mono{s:Sm}{F:FT}{tp:Bool}{ρ:Env}{z:Z}{Q Q':O->Z->Prop}{E E':Nat->Z->Prop}(h:WS F tp s ρ z Q E)(hq:∀ a z,Q a z->Q' a z)(he:∀ c z,E c z->E' c z):WS F tp s ρ z Q' E':=P90.mpr (W.mono (P90.mp h) hq he)
theorem W21(Mid:Env->Z->Prop)(h:WS F tp s ρ z (λo z1=>match o with
  |.nx ρ=>Mid ρ z1
  |.rt s=>Q (.rt s) z1) E) (h2:∀ ρ z,Mid ρ z->WS F tp r ρ z Q E):WS F tp (.seq s r) ρ z Q E:=by
 refine WS.mono (s:=s) h (λo z1 h=>?_) λ_ _ h=>h;cases o with
 |nx ρ=>exact h2 ρ z1 h|rt s=>exact h
section
variable {T:List Df}{k f ps ns:Nat}{b:Sm}{l:List S}{z:Z}{Q:S->Z->Prop}{E:Nat->Z->Prop}
theorem o02(h:T[f]?=some (.code ps ns b))(hl:l.length=ps)(hn:ps<=ns):W (c00 T (k + 3) f l) z Q E↔WS (Z90 T (k + 2)) z.isNone b (start ns (l.map plS)) z (λo z1=>match o with
  |.nx _=>Q (.d .non) (I80 z z1)
  |.rt s=>Q s (I80 z z1)) λc z1=>E c (I80 z z1):=by
 refine Iff.trans ?_ P90.symm;rw[U10,h];show W (λz=>if l.length=ps/\ps<=ns then(match ex (Z90 T (k + 2)) z.isNone b (start ns (l.map plS)) z with
  |some (.ok (.nx _) z1)=>some (R.ok (S.d .non) (I80 z z1))|some (.ok (.rt s) z1)=>some (.ok s (I80 z z1))|some (.er c z1)=>some (.er c (I80 z z1))
  |none=>none) else none) z Q E↔_
 rw[W_e,W_e];constructor
 ·rintro ⟨r,e,q⟩;rw[if_pos ⟨hl,hn⟩] at e;split at e
  ·rename_i ρ z1 e1;cases e;exact⟨_,e1,q⟩
  ·rename_i s z1 e1;cases e;exact⟨_,e1,q⟩
  ·rename_i c z1 e1;cases e;exact⟨_,e1,q⟩
  ·cases e
 ·rintro ⟨r,e,q⟩;rw[if_pos ⟨hl,hn⟩,e]
  match r,q with
  |.ok (.nx ρ) z1,q=>exact⟨_,rfl,q⟩|.ok (.rt s) z1,q=>exact⟨_,rfl,q⟩|.er c z1,q=>exact⟨_,rfl,q⟩
end
section
variable {F:FT}{tp:Bool}{ρ:Env}{z:Z}{E:Nat->Z->Prop}
theorem W40{f:D->M (Option D)}{o:D->Option D}:∀ {xs:List D}{Q:List D->Z->Prop},(∀ x∈xs,f x z=some (.ok (o x) z))->(W (turns f xs) z Q E↔Q (xs.filterMap o) z)
 |[],Q,_=>W30
 |x::r,Q,h=>by
  show W (M.bind (f x) _) z Q E↔_;rw[E60,E62 (h x É),E60,W40 λy hy=>h y (Ê _ hy),W30];rw[À7];cases o x <;> rfl
theorem L61(I:List D->Env->Z->Prop):∀ (xs:List D) {ρ:Env}{z:Z},I xs ρ z->(∀ x r ρ z,I (x::r) ρ z->W (f x ρ) z (λo z1=>match o with
  |.nx ρ=>I r ρ z1
  |.rt s=>Q (.rt s) z1) E)->(∀ ρ z,I [] ρ z->Q (.nx ρ) z)->W (S10 f xs ρ) z Q E
 |[],ρ,z,hi,_,q=>W30.mpr (q _ _ hi)
 |x::r,ρ,z,hi,h,q=>by
  show W (M.bind (f x ρ) _) z Q E;rw[E60];refine(h x r ρ z hi).mono (λo z1 ho=>?_) λ_ _ h=>h;cases o with
  |nx ρ1=>exact L61 I r ho h q|rt s=>exact W30.mpr ho
theorem o12{c:Env->M (List S)}{f:Env->M O}{Q:O->Z->Prop}(I:Nat->Env->Z->Prop)(step:∀ n ρ z,I n ρ z->W (c ρ) z (λx z1=>Get ((pl x).bind asB) λk=>if k then W (f ρ) z1 (λo z2=>match o with
  |.nx ρ=>∃ m,m < n/\I m ρ z2
  |.rt s=>Q (.rt s) z2) E else Q (.nx ρ) z1) E):∀ (n m:Nat) {ρ:Env}{z:Z},I n ρ z->n < m->W (K11 c f m ρ) z Q E:=by
 intro n
 induction n using Û4 with
 |ind n ih =>
  intro m ρ z hi hm;cases m with
  |zero=>omega
  |succ m =>
   show W (M.bind (c ρ) _) z Q E;rw[E60];refine(step n ρ z hi).mono (λx z1 h=>?_) λ_ _ h=>h;obtain⟨k,e,h⟩:=t00 h;refine(wG (K:=λk=>if k=true then W (M.bind (f ρ) _) z1 Q E else W (M.ret (O.nx ρ)) z1 Q E) λk=>wT Ô9 Ô9).mp (a00 e ?_);cases k with
   |true =>
    rw[if_pos rfl] at h ⊢;rw[E60];refine h.mono (λo z2 h=>?_) λ_ _ h=>h;cases o with
    |nx ρ1 =>
     obtain⟨j,hj,hi⟩:=h;exact ih j hj m hi ∅
    |rt s=>exact W30.mpr h
   |false =>
    rw[if_neg Ð] at h ⊢;exact W30.mpr h
end
mutual
noncomputable def cE:D->Ex
 |.tup l=>.tup (cEs l)|.lst l=>.lst (cEs l)|.int i=>if i < 0 then .neg (.con (.int (-i))) else .con (.int i)|x=>.con x
noncomputable def cEs:List D->Ex
 |[]=>.nil|x::r=>.cons (cE x) (cEs r)
end
mutual
noncomputable def okC:D->Bool
 |.tup l=>decide (l.length<=most)&&B62 l|.lst l=>decide (l.length<=most)&&B62 l|_=>true
noncomputable def B62:List D->Bool
 |[]=>true|x::r=>okC x&&B62 r
end
def cX(d:D)(_:okC d=true):Ex:=cE d
section
variable {F:FT}{ρ:Env}{z:Z}{Q:List S->Z->Prop}{E:Nat->Z->Prop}{a b c as:Ex}{p:Pat}{ρ0:Env}{x:D}{Q1:Option D->Z->Prop}
theorem W31:W (u90 (ev F .nil) (ev F a) p ρ0 x) z Q1 E↔Get (f20 p x ρ0) λρ=>WE F a ρ z (λy z1=>Get (pl y) λd=>Q1 (some d) z1) E :=
 (wG λρ=>show _↔W (M.bind (ev F a ρ) λy=>M.bind (M.of (pl y)) λy=>M.ret (some y)) z Q1 E from wB d90 λy z1=>wG λd=>wR).symm
theorem o22{l:List S}{m:M (List S)}{V:Prop}(h:V↔W (M.bind m λy=>M.bind (M.of (pl y)) λy=>M.ret (some y)) z Q1 E):(match l with | [s]=>Get (blS s) λb=>if b then V else Q1 none z | _=>l=[]/\V)↔W (match l with
  |[]=>M.bind m λy=>M.bind (M.of (pl y)) λy=>M.ret (some y)|[.d (.bl true)]=>M.bind m λy=>M.bind (M.of (pl y)) λy=>M.ret (some y)|[.d (.bl false)]=>M.ret none
  |_=>M.no) z Q1 E:=by
 match l with
 |[]=>exact⟨λx=>h.mp x.2,λx=>⟨rfl,h.mpr x⟩⟩|[.d (.bl true)]=>exact n52.trans ((iff_of_eq (if_pos rfl)).trans h)|[.d (.bl false)]=>exact n52.trans ((iff_of_eq (if_neg Ð)).trans wR)|[.d .non]=>exact wN|[.d (.int _)]=>exact wN|[.d (.str _)]=>exact wN|[.d (.tup _)]=>exact wN|[.d (.lst _)]=>exact wN|[.d .dct]=>exact wN|[.fr _]=>exact wN|[.z]=>exact wN|[.ks _]=>exact wN
 |s::_::_ =>
  refine⟨λx=>(by cases x.1),λx=>?_⟩
  cases s with
  |d y =>
   cases y with
   |bl b=>cases b <;> exact(n62.mp x).elim
   |_=>exact(n62.mp x).elim
  |_=>exact(n62.mp x).elim
theorem W41:W (u90 (ev F (.cons c .nil)) (ev F a) p ρ0 x) z Q1 E↔Get (f20 p x ρ0) λρ=>WE F c ρ z (λy z1=>Get (one y) λs=>Get (blS s) λb=>if b then WE F a ρ z1 (λy z2=>Get (pl y) λd=>Q1 (some d) z2) E else Q1 none z1) E:=by
 refine Iff.symm (wG λρ=>?_);refine wB (d90 (F:=F) (e:=.cons c .nil) (ρ:=ρ) (Q:=λl z1=>match l with | [s]=>Get (blS s) λb=>if b then WE F a ρ z1 (λy z2=>Get (pl y) λd=>Q1 (some d) z2) E else Q1 none z1 | _=>l=[]/\WE F a ρ z1 (λy z2=>Get (pl y) λd=>Q1 (some d) z2) E)) λl z1=>?_
 exact o22 (wB d90 λy z1=>wG λd=>wR)
end
section
variable {α:Type}{m:M α}{z z1:Z}{Q Q':α->Z->Prop}{E:Nat->Z->Prop}
theorem Wo(h:m z=some (.ok a z1))(q:Q a z1):W m z Q E:=⟨_,h,q⟩
theorem We(h:m z=some (.er c z1))(q:E c z1):W m z Q E:=⟨_,h,q⟩
end
theorem n10{T:List Df}{k f ps ns:Nat}{b:Sm}{l:List S}{z:Z}{Q:S->Z->Prop}{E:Nat->Z->Prop}(h:T[f]?=some (.code ps ns b))(hl:l.length=ps)(hn:ps<=ns)(q:WS (Z90 T (k + 2)) z.isNone b (start ns (l.map plS)) z (λo z1=>match o with
  |.nx _=>Q (.d .non) (I80 z z1)
  |.rt s=>Q s (I80 z z1)) λc z1=>E c (I80 z z1)):W (c00 T (k + 3) f l) z Q E:=(o02 h hl hn).mpr q
theorem ib{b:Bool}{A B:Prop}(ht:b=true->A)(hf:b=false->B):if b=true then A else B:=by
 cases b with
 |true=>exact ht rfl|false=>exact hf rfl
theorem it{b:Bool}{A B:Prop}(h:b=true)(a:A):if b=true then A else B:=by rw[if_pos h];exact a
theorem ie{b:Bool}{A B:Prop}(h:b=false)(a:B):if b=true then A else B:=by rw[h];exact a
theorem ip{c:Prop}[Decidable c]{A B:Prop}(h:c)(a:A):if c then A else B:=by rw[if_pos h];exact a
theorem B50(z:Z):I80 z z=z:=by cases z <;> rfl
theorem sd{s t:S}{z:Z}(h:s=t):s=t/\I80 z z=z:=⟨h,B50 z⟩
theorem sb(h:b=c):S.d (.bl b)=S.d (.bl c)/\I80 z z=z:=sd (by rw[h])
section
variable {F:FT}{tp:Bool}{z:Z}{E:Nat->Z->Prop}{p:Pat}
theorem B60(I:List D->Env->Z->Prop)(xs:List D)(hi:I xs ρ z)(h:∀ x r ρ z,I (x::r) ρ z->Get (f20 p x ρ) λρ=>WS F tp b ρ z (λo z1=>match o with
  |.nx ρ=>I r ρ z1
  |.rt s=>Q (.rt s) z1) E) (q:∀ ρ z,I [] ρ z->Q (.nx ρ) z):W (S10 (λx ρ=>M.bind (M.of (f20 p x ρ)) λρ=>ex F tp b ρ) xs ρ) z Q E :=
 L61 I xs hi (λx r ρ z hi=>(wG λρ=>P90).mp (h x r ρ z hi)) q
theorem o32(I:Nat->Env->Z->Prop)(n:Nat)(hi:I n ρ z)(hn:n < Z91)(h:∀ n ρ z,I n ρ z->WE F c ρ z (λx z1=>Get ((pl x).bind asB) λk=>if k then WS F tp b ρ z1 (λo z2=>match o with
  |.nx ρ=>∃ m,m < n/\I m ρ z2
  |.rt s=>Q (.rt s) z2) E else Q (.nx ρ) z1) E):W (K11 (ev F c) (ex F tp b) Z91 ρ) z Q E:=by
 refine o12 I (λn ρ z hi=>?_) n Z91 hi hn;refine(d90.mp (h n ρ z hi)).mono (λx z1 h=>?_) λ_ _ h=>h;obtain⟨k,e,h⟩:=t00 h;refine a00 e ?_;cases k with
 |true=>exact P90.mp h|false=>exact h
variable {ρ0:Env}{cond el:Ex}{xs:List D}{Q:List D->Z->Prop}
theorem c21(o:D->D)(h:∀ x∈xs,Get (f20 p x ρ0) λρ=>WE F el ρ z (λy z1=>Get (pl y) λd=>d=o x/\z1=z) NE)(q:Q (xs.map o) z):W (turns (u90 (ev F .nil) (ev F el) p ρ0) xs) z Q E:=by
 refine(W40 (o:=λx=>some (o x)) λx hx=>?_).mpr ?_
 ·refine W.ok (W31.mpr ?_);obtain⟨ρ,e,h⟩:=t00 (h x hx);refine a00 e (d90.mpr ((d90.mp h).imp λy z1 h=>?_));obtain⟨d,e,rfl,rfl⟩:=t00 h;exact a00 e ⟨rfl,rfl⟩
 ·rw[show xs.filterMap (λx=>some (o x))=xs.map o from congrFun (List.filterMap_eq_map (f:=o)) xs];exact q
theorem B72{c:D->Bool}{o:D->D}:∀ xs:List D,xs.filterMap (λx=>if c x then some (o x) else none)=(xs.filter c).map o
 |[]=>rfl
 |x::r=>by
  rw[À7,Æ5];cases hc:c x with
  |false=>exact B72 r|true=>exact congrArg (o x::·) (B72 r)
theorem W51(c:D->Bool)(o:D->D)(h:∀ x∈xs,Get (f20 p x ρ0) λρ=>WE F cond ρ z (λy z1=>Get (one y) λs=>s=.d (.bl (c x))/\z1=z/\(c x=true->WE F el ρ z (λy z1=>Get (pl y) λd=>d=o x/\z1=z) NE)) NE)(q:Q ((xs.filter c).map o) z):W (turns (u90 (ev F (.cons cond .nil)) (ev F el) p ρ0) xs) z Q E:=by
 refine(W40 (o:=λx=>if c x then some (o x) else none) λx hx=>?_).mpr ?_
 ·refine W.ok (W41.mpr ?_);obtain⟨ρ,e,h⟩:=t00 (h x hx);refine a00 e (d90.mpr ((d90.mp h).imp λy z1 h=>?_));obtain⟨s,e,rfl,rfl,h⟩:=t00 h;refine a00 e ?_;show if c x=true then _ else _;cases hc:c x with
  |false=>exact⟨rfl,rfl⟩
  |true =>
   refine d90.mpr ((d90.mp (h hc)).imp λy z1 h=>?_);obtain⟨d,e,rfl,rfl⟩:=t00 h;exact a00 e ⟨rfl,rfl⟩
 ·rw[B72];exact q
end
theorem B70{s:S}{ρ:Env}(h:D00 s=true):k40 s ρ=ρ:=by
 unfold k40;rw[O00,h];rfl
theorem W50{F:FT}{tp:Bool}{p:Pat}{e:Ex}{r:Sm}{ρ:Env}{z:Z}{Q:O->Z->Prop}{E:Nat->Z->Prop}(s:S)(ρ':Env)(he:WE F e ρ z (λl z1=>Get (one l) λt=>t=s/\z1=z) NE)(hb:I70 p s (k40 s ρ)=some ρ')(q:WS F tp r ρ' z Q E):WS F tp (.seq (.set p e) r) ρ z Q E:=by
 show WE F e ρ z (λl z1=>Get (one l) λs=>Get (I70 p s (k40 s ρ)) λρ'=>WX F tp r ρ' z1 Q E) E;refine d90.mpr ((d90.mp he).imp λl z1 h=>?_);obtain⟨t,e,rfl,rfl⟩:=t00 h;exact a00 e (a00 hb q)
end Q
namespace K3
open PySem L2 Q
def top(i:Nat):Stmt:=ö.main.body.getD i (.Pass ⟨0,0,0,0⟩)
def nums:List (Str × Int):=[(("MOST_PLACES":Str),(6:Int)),(("MOST_TIES":Str),(8:Int))]
abbrev v0:Ex:=.var 0
abbrev v1:Ex:=.var 1
abbrev v2:Ex:=.var 2
abbrev v3:Ex:=.var 3
abbrev v4:Ex:=.var 4
abbrev v5:Ex:=.var 5
abbrev v6:Ex:=.var 6
abbrev v7:Ex:=.var 7
abbrev v8:Ex:=.var 8
abbrev v9:Ex:=.var 9
abbrev n0:Ex:=.con (.int 0)
abbrev n1:Ex:=.con (.int 1)
abbrev n2:Ex:=.con (.int 2)
abbrev c1(a:Ex):Ex:=.cons a .nil
abbrev c2(a b:Ex):Ex:=.cons a (.cons b .nil)
abbrev c3(a b c:Ex):Ex:=.cons a (.cons b (.cons c .nil))
abbrev c4(a b c d:Ex):Ex:=.cons a (.cons b (.cons c (.cons d .nil)))
abbrev c5(a b c d e:Ex):Ex:=.cons a (.cons b (.cons c (.cons d (.cons e .nil))))
abbrev s1(a:Sm):Sm:=.seq a .nil
abbrev p2(a b:Pat):Pat:=.tup (.cons a (.cons b .nil))
abbrev v00:Nat:=0
abbrev o50:Nat:=1
abbrev c31:Nat:=2
abbrev E70:Nat:=3
abbrev c41:Nat:=4
abbrev v21:Nat:=5
abbrev k60:Nat:=6
abbrev l20:Nat:=7
abbrev p80:Nat:=8
abbrev w60:Nat:=9
abbrev E80:Nat:=10
abbrev n20:Nat:=11
abbrev E90:Nat:=12
abbrev w70:Nat:=13
abbrev p90:Nat:=14
abbrev F00:Nat:=15
abbrev B80:Nat:=16
abbrev w80:Nat:=17
abbrev l90:Nat:=18
abbrev B90:Nat:=19
abbrev e50:Nat:=20
abbrev C00:Nat:=21
abbrev w90:Nat:=22
abbrev C10:Nat:=23
abbrev q00:Nat:=24
abbrev x00:Nat:=25
abbrev c50:Nat:=26
abbrev x10:Nat:=27
abbrev F10:Nat:=28
abbrev i30:Nat:=29
abbrev q10:Nat:=30
abbrev F20:Nat:=31
abbrev F30:Nat:=32
abbrev o42:Nat:=33
def F40:Sm:=(s1 (.ret (.and (.isi .int v0) (.not (.isi .bool v0)))))
def v40:Sm:=(s1 (.ret (.and (.call v00 (c1 v0)) (.ch .le .lt n0 v0 v1))))
def J90:Sm:=(.seq (.iff (.or (.not (.isi .tuple v0)) (.cmp .ne (.bf .len (c1 v0)) n2)) (s1 (.ret (.con (.bl false)))) .nil) (.seq (.set (p2 (.v 2) (.v 3)) v0) (s1 (.ret (.and (.call o50 (c2 v2 v1)) (.and (.call o50 (c2 v3 v1)) (.cmp .lt v2 v3)))))))
def v50:Sm:=(.seq (.iff (.or (.not (.isi .tuple v0)) (.cmp .gt (.bf .len (c1 v0)) (.gint "MOST_TIES" 8))) (s1 (.ret (.con (.bl false)))) .nil) (.seq (.iff (.not (.bf .all (c1 (.comp 1 [1] (.v 0) .seq (c1 v0) .nil (.call c31 (c2 v0 v1)))))) (s1 (.ret (.con (.bl false)))) .nil) (s1 (.ret (.bf .all (c1 (.comp 2 [] (p2 (.v 0) (.v 1)) .zip (c2 v0 (.sl v0 (c1 n1) .nil)) .nil (.cmp .le v0 v1))))))))
def K00:Sm:=(.seq (.iff (.or (.not (.isi .tuple v0)) (.cmp .ne (.bf .len (c1 v0)) n2)) (s1 (.ret (.con (.bl false)))) .nil) (.seq (.set (p2 (.v 1) (.v 2)) v0) (s1 (.ret (.and (.call v00 (c1 v1)) (.and (.ch .le .le n1 v1 (.gint "MOST_PLACES" 6)) (.call E70 (c2 v2 v1))))))))
def W60:Sm:=(s1 (.ret (.bf .all (c1 (.comp 2 [] (p2 (.v 0) (.v 1)) .zip (c2 v0 (.sl v0 (c1 n1) .nil)) .nil (.cmp .lt v0 v1))))))
def f30:Sm:=(.seq (.iff (.not (.isi .tuple v0)) (s1 (.ret (.con (.bl false)))) .nil) (s1 (.ret (.and (.bf .all (c1 (.comp 1 [1] (.v 0) .seq (c1 v0) .nil (.call o50 (c2 v0 v1))))) (.call v21 (c1 v0))))))
def l30:Sm:=(s1 (.iff (.not (.call c41 (c1 v0))) (s1 (.rais 0)) .nil))
def j60:Sm:=(s1 (.iff (.or (.not (.call k60 (c2 v1 (.idx v0 n0)))) (.cmp .eq (.bf .len (c1 v1)) n0)) (s1 (.rais 2)) .nil))
def n30:Sm:=(s1 (.ret (.lrng true (c1 (.idx v0 n0)))))
def v60:Sm:=(.seq (.set (p2 (.v 2) (.v 3)) v0) (.seq (.set (.v 4) (.lrng false (c1 v2))) (.seq (.fr (.v 5) .seq (c1 v1) (.seq (.set (p2 (.v 6) (.v 7)) (.idx v3 v5)) (.seq (.set (.v 8) (.idx v4 v6)) (.seq (.set (.v 9) (.idx v4 v7)) (s1 (.set (.v 4) (.comp 1 [8,9] (.v 0) .seq (c1 v4) .nil (.ite (.cmp .eq v0 v2) v1 v0)))))))) (s1 (.ret v4)))))
def n40:Sm:=(.seq (.set (.v 3) (.call E80 (c2 v0 v1))) (s1 (.ret (.bf .all (c1 (.comp 1 [2,3] (.v 0) .seq (c1 v2) .nil (.cmp .eq (.idx v2 v0) (.idx v2 (.idx v1 n0)))))))))
def o60:Sm:=(.seq (.set (.v 1) (cX (.lst [(.tup [])]) (-0))) (.seq (.fr (.v 2) .rng1 (c1 (.bf .len (c1 (.idx v0 n1)))) (s1 (.set (.v 1) (.bin .add v1 (.comp 1 [2] (.v 0) .seq (c1 v1) .nil (.bin .add v0 (.tup (c1 v1)))))))) (s1 (.ret (.bf .sorted (c1 v1))))))
def n50:Sm:=(s1 (.ret (.bf .tuple (c1 (.comp 1 [1] (.v 0) .rng1 (c1 (.bf .len (c1 (.idx v0 n1)))) (c1 (.cmp .nmem v0 v1)) v0)))))
def j70:Sm:=(s1 (.ret (.comp 1 [0] (.v 0) .rng1 (c1 (.bf .len (c1 v0))) .nil (.bin .add (.sl v1 .nil (c1 v0)) (.sl v1 (c1 (.bin .add v0 n1)) .nil)))))
def v70:Sm:=(.seq (.set (.v 1) (.dkeys v0)) (s1 (.ret (.comp 1 [1] (.v 0) .seq (c1 v0) (c1 (.not (.bf .any (c1 (.comp 1 [1] (.v 0) .seq (c1 (.call p90 (c1 v0))) .nil (.memk true v0 1)))))) v0))))
def q70:Sm:=(.seq (.exp (.call l20 (c1 v0))) (.seq (.exp (.call p80 (c2 v0 v1))) (s1 (.ret (.comp 1 [0,1] (.v 0) .seq (c1 (.call E90 (c1 v0))) (c1 (.call n20 (c3 v1 v0 v2))) v0)))))
def n60:Sm:=(s1 (.ret (.call F00 (c1 (.call B80 (c2 v0 v1))))))
def g60:Sm:=(.seq (.set (.v 3) (.bf .tuple (c1 (.comp 1 [2] (.v 0) .seq (c1 v1) (c1 (.cmp .lt v0 v1)) v0)))) (s1 (.ret (.not (.call n20 (c3 v0 v3 (.idx (.idx v0 n1) v2)))))))
def q80:Sm:=(.seq (.set (.v 2) (.call w70 (c2 v0 v1))) (s1 (.ret (.tup (c2 v1 (.bf .tuple (c1 (.comp 1 [0,1] (.v 0) .seq (c1 v2) (c1 (.call l90 (c3 v1 v2 v0))) v0))))))))
def h50:Sm:=(.seq (.exp (.call l20 (c1 v0))) (s1 (.ret (.bf .tuple (c1 (.comp 1 [0] (.v 0) .seq (c1 (.call w80 (c2 v0 (.call w60 (c1 v0))))) .nil (.call B90 (c2 v1 v0))))))))
def q90:Sm:=(.seq (.set (.v 1) (cX (.lst [(.tup [])]) (-0))) (.seq (.fr (.v 2) .rng1 (c1 (.bf .len (c1 (.idx v0 n1)))) (s1 (.set (.v 1) (.bin .add v1 (.comp 1 [2] (.v 0) .seq (c1 v1) .nil (.bin .add v0 (.tup (c1 v1)))))))) (s1 (.ret v1))))
def n70:Sm:=(.seq (.set (.v 2) (.lrng false (c1 (.idx v0 n0)))) (.seq (.fr (.v 3) .seq (c1 v1) (.seq (.set (p2 (.v 4) (.v 5)) (.idx (.idx v0 n1) v3)) (.seq (.set (p2 (.v 6) (.v 7)) (.tup (c2 (.idx v2 v4) (.idx v2 v5)))) (s1 (.set (.v 2) (.comp 1 [6,7] (.v 0) .seq (c1 v2) .nil (.ite (.cmp .eq v0 v2) v1 v0))))))) (s1 (.ret v2))))
def r00:Sm:=(.seq (.set (.v 3) (.call w90 (c2 v0 v1))) (s1 (.ret (.cmp .eq (.comp 1 [2,3] (.v 0) .seq (c1 v2) (c1 (.cmp .ne (.idx v2 v0) (.idx v2 (.idx v1 n0)))) v0) (.lst .nil)))))
def f60:Sm:=(.seq (.iff (.cmp .lt v1 (.bf .len (c1 v0))) (s1 (.ret (.idx v0 v1))) .nil) (s1 (.ret n0)))
def j00:Sm:=(.seq (.set (.v 2) (.call q00 (c2 v0 v1))) (.seq (.iff (.cmp .ge v2 (.bin .pow (.con (.int 10)) (.con (.int 18)))) (s1 (.ret (.lst (c2 (.bin .sub v2 (.bin .pow (.con (.int 10)) (.con (.int 18)))) (.con (.bl true)))))) .nil) (s1 (.ret (.lst (c2 (.bin .mod v2 (.con (.int 2147483647))) (.con (.bl false))))))))
def r10:Sm:=(.seq (.iff (.zget 0 1) (.seq (.set (.v 2) (.bin .mod (.zget 0 0) v1)) (.seq (.zset 0 (.bin .fdiv (.zget 0 0) v1)) (s1 (.ret v2)))) .nil) (.seq (.zset 0 (.bin .mod (.bin .add (.bin .mul (.zget 0 0) (.con (.int 48271))) (.con (.int 29))) (.con (.int 2147483647)))) (.seq (.set (.v 3) (.bin .mod (.bin .add (.bin .add (.bin .mul (.zget 0 0) (.zget 0 0)) (.bin .mul (.con (.int 39373)) (.zget 0 0))) (.con (.int 7))) (.con (.int 2147483629)))) (.seq (.set (.v 3) (.bin .mod (.bin .add (.bin .mul v3 v3) (.bin .mul (.con (.int 16807)) v3)) (.con (.int 2147483587)))) (s1 (.ret (.bin .mod (.bin .fdiv v3 (.con (.int 8))) v1)))))))
def n80:Sm:=(.seq (.set (.v 2) (.lrng false (c1 v1))) (.seq (.set (.v 3) (.lst .nil)) (.seq (.whl (.cmp .ne v2 (.lst .nil)) (s1 (.apop 3 2 (.call c50 (c2 v0 (.bf .len (c1 v2))))))) (s1 (.ret (.bf .tuple (c1 v3)))))))
def v80:Sm:=(.seq (.set (.v 2) (.idx (cX (.lst [(.int 5),(.int 4),(.int 6),(.int 3),(.int 4),(.int 2),(.int 6),(.int 1)]) (-0)) (.call c50 (c2 v0 (.con (.int 8)))))) (.seq (.set (.v 3) (.call x10 (c2 v0 v2))) (.seq (.set (.v 4) (.call c50 (c2 v0 (.con (.int 6))))) (.seq (.set (.v 5) (.lst .nil)) (.seq (.fr (.v 6) .rng2 (c2 n1 v2) (s1 (.app 5 (.tup (c2 (.idx v3 v6) (.idx v3 (.idx (.lst (.cons (.bin .sub v6 n1) (c5 (.bin .sub v6 n1) n0 (.bin .fdiv v6 n2) (.bin .sub v6 n1) n0))) v4))))))) (.seq (.iff (.and (.cmp .eq v4 n0) (.cmp .gt v2 n2)) (s1 (.app 5 (.tup (c2 (.idx v3 n0) (.idx v3 (.bin .sub v2 n1)))))) .nil) (.seq (.iff (.cmp .eq v4 (.con (.int 4))) (s1 (.set (.v 5) (.sl v5 (c1 n1) .nil))) .nil) (.seq (.fr (.v 7) .rng1 (c1 (.call c50 (c2 v0 (.con (.int 5))))) (.seq (.set (p2 (.v 8) (.v 9)) (.tup (c2 (.call c50 (c2 v0 v2)) (.call c50 (c2 v0 v2))))) (s1 (.iff (.cmp .ne v8 v9) (s1 (.app 5 (.tup (c2 v8 v9)))) .nil)))) (.seq (.iff (.and (.cmp .ne v5 (.lst .nil)) (.cmp .eq (.call c50 (c2 v0 (.con (.int 3)))) n0)) (s1 (.app 5 (.idx v5 (.call c50 (c2 v0 (.bf .len (c1 v5))))))) .nil) (.seq (.set (.v 5) (.sl v5 .nil (c1 v1))) (s1 (.ret (.tup (c2 v2 (.bf .tuple (c1 (.bf .sorted (c1 (.comp 2 [] (p2 (.v 0) (.v 1)) .seq (c1 v5) .nil (.tup (c2 (.bf .min (c2 v0 v1)) (.bf .max (c2 v0 v1)))))))))))))))))))))))
def l40:Sm:=(.seq (.iff (.isi .seq v1) (.seq (.iff (.or (.cmp .ne (.isi .tuple v0) (.isi .tuple v1)) (.cmp .ne (.isi .list v0) (.isi .list v1))) (s1 (.ret (.con (.bl false)))) .nil) (.seq (.iff (.cmp .ne (.bf .len (c1 v0)) (.bf .len (c1 v1))) (s1 (.ret (.con (.bl false)))) .nil) (s1 (.ret (.bf .all (c1 (.comp 2 [] (p2 (.v 0) (.v 1)) .zip (c2 v0 v1) .nil (.call i30 (c2 v0 v1))))))))) .nil) (s1 (.ret (.and (.cmp .eq v0 v1) (.cmp .eq (.isi .bool v0) (.isi .bool v1))))))
def j80:Sm:=(.seq (.set (.v 1) (cX (.lst [.non,(.int 0),(.tup []),(.tup [(.int 0),(.tup [])]),(.tup [(.int 7),(.tup [])]),(.tup [(.bl true),(.tup [])]),(.tup [(.int 2),(.lst [])]),(.lst [(.int 2),(.tup [])]),(.tup [(.int 2),(.tup [(.tup [(.int 1),(.int 0)])])]),(.tup [(.int 2),(.tup [(.tup [(.int 0),(.int 0)])])])]) (-0))) (.seq (.set (.v 1) (.bin .add v1 (cX (.lst [(.tup [(.int 2),(.tup [(.tup [(.int 0),(.int 2)])])]),(.tup [(.int 3),(.tup [(.tup [(.int 1),(.int 2)]),(.tup [(.int 0),(.int 1)])])]),(.tup [(.int 2),(.tup [(.tup [(.int 0),(.int 1),(.int 1)])])]),(.tup [(.int 2),(.tup [(.tup [(.int 0),(.bl true)])])]),(.tup [(.int 2)]),(.str "2:")]) (-0)))) (.seq (.set (.v 1) (.bin .add v1 (.lst (.cons (.tup (c2 n2 (.bin .mul (cX (.tup [(.tup [(.int 0),(.int 1)])]) (-0)) (.con (.int 9))))) (c5 (.con .dct) (cX (.tup [(.int 2),(.tup [(.lst [(.int 0),(.int 1)])])]) (-0)) (cX (.tup [(.int 2),(.tup []),(.tup [])]) (-0)) (cX (.tup [(.int 2),.non]) (-0)) (cX (.tup [(.str "2"),(.tup [])]) (-0))))))) (s1 (.ret (.idx v1 (.call c50 (c2 v0 (.con (.int 22))))))))))
def o70:Sm:=(.seq (.set (.v 4) (.lst (c1 (.tup (c2 v2 (.tup .nil)))))) (.seq (.whl (.cmp .nmem v3 (.comp 2 [] (p2 (.v 0) (.v 1)) .seq (c1 v4) .nil v0)) (.seq (.set (.v 5) (.lst .nil)) (.seq (.fr (p2 (.v 6) (.v 7)) .seq (c1 v4) (s1 (.fr (.v 8) .seq (c1 v1) (s1 (.iff (.and (.cmp .mem v6 (.idx (.idx v0 n1) v8)) (.cmp .nmem v8 v7)) (s1 (.app 5 (.tup (c2 (.bin .sub (.bf .sum (c1 (.idx (.idx v0 n1) v8))) v6) (.bin .add v7 (.tup (c1 v8))))))) .nil))))) (s1 (.set (.v 4) v5))))) (s1 (.ret (.idx (.comp 2 [3] (p2 (.v 0) (.v 1)) .seq (c1 v4) (c1 (.cmp .eq v0 v2)) v1) n0)))))
def o80:Sm:=(.seq (.set (.v 1) (.lrng false (c1 (.idx v0 n0)))) (.seq (.set (.v 2) (.lst .nil)) (.seq (.fr (.v 3) .seq (c1 (.call C00 (c1 v0))) (s1 (.iff (.and (.cmp .eq (.bf .len (c1 v3)) (.bin .sub (.idx v0 n0) n1)) (.call C10 (c3 v0 v3 v1))) (.seq (.set (.v 4) (.lst .nil)) (.seq (.fr (.v 5) .rng1 (c1 (.bf .len (c1 (.idx v0 n1)))) (s1 (.iff (.cmp .nmem v5 v3) (.seq (.set (.v 6) (.call F20 (c4 v0 v3 (.idx (.idx (.idx v0 n1) v5) n0) (.idx (.idx (.idx v0 n1) v5) n1)))) (s1 (.iff (.cmp .gt (.bf .max (c1 v6)) v5) (s1 (.app 4 v5)) .nil))) .nil))) (s1 (.app 2 (.tup (c2 v3 (.bf .tuple (c1 v4)))))))) .nil))) (s1 (.ret (.bf .tuple (c1 (.bf .sorted (c1 v2)))))))))
def W61:Sm:=(.seq (.fr (.v 1) .rng1 (c1 (.bf .max (c2 n1 (.bf .min (c2 (.bf .len (c1 v0)) (.con (.int 6))))))) (.seq (.newz 2 x00 (c2 v0 v1)) (.seq (.set (.v 3) (.call F10 (c2 v2 (.idx (cX (.lst [(.int 7),(.int 8)]) (-0)) (.bf .int (c1 (.cmp .eq v1 n0))))))) (.seq (.set (.v 4) (.call F30 (c1 v3))) (.seq (.iff (.or (.not (.call i30 (c2 (.call e50 (c1 v3)) v4))) (.not (.call i30 (c2 (.call e50 (c1 v3)) v4)))) (s1 (.ret (.con (.bl false)))) .nil) (.seq (.set (.v 5) (.call q10 (c1 v2))) (s1 (.iff (.cmp .ne (.refd [5] (.call e50 (c1 v0))) (cX (.lst [(.int 0)]) (-0))) (s1 (.ret (.con (.bl false)))) .nil)))))))) (s1 (.ret (.con (.bl true)))))
def rows:List Row:=[(⟨"is_whole",["thing"],top 17,["thing"],F40,false⟩:Row),
 (⟨"is_below",["thing","many"],top 18,["thing","many"],v40,false⟩:Row),
 (⟨"is_tie",["thing","many"],top 19,["thing","many","a","b"],J90,false⟩:Row),
 (⟨"are_ties",["thing","many"],top 20,["thing","many"],v50,false⟩:Row),
 (⟨"is_web",["thing"],top 21,["thing","many","ties"],K00,false⟩:Row),
 (⟨"rises",["things"],top 22,["things"],W60,false⟩:Row),
 (⟨"is_rising_below",["thing","many"],top 23,["thing","many"],f30,false⟩:Row),
 (⟨"check_web",["thing"],top 24,["thing"],l30,false⟩:Row),
 (⟨"check_places",["web","thing"],top 25,["web","thing"],j60,false⟩:Row),
 (⟨"all_places",["web"],top 26,["web"],n30,false⟩:Row),
 (⟨"marks_by",["web","lot"],top 27,["web","lot","many","ties","marks","number","a","b","kept","gone"],v60,false⟩:Row),
 (⟨"are_joined",["web","lot","places"],top 28,["web","lot","places","marks"],n40,false⟩:Row),
 (⟨"all_lots",["web"],top 30,["web","lots","number"],o60,false⟩:Row),
 (⟨"other_ties",["web","lot"],top 31,["web","lot"],n50,false⟩:Row),
 (⟨"one_left_out",["lot"],top 32,["lot"],j70,false⟩:Row),
 (⟨"least_of",["lots"],top 33,["lots","known"],v70,false⟩:Row),
 (⟨"good_lots",["web","places"],top 34,["web","places"],q70,false⟩:Row),
 (⟨"least_good",["web","places"],top 35,["web","places"],n60,false⟩:Row),
 (⟨"is_passed_over",["web","tree","number"],top 37,["web","tree","number","lesser"],g60,false⟩:Row),
 (⟨"tree_pair",["web","tree"],top 38,["web","tree","others"],q80,false⟩:Row),
 (⟨"trees_paper",["web"],top 39,["web"],h50,false⟩:Row),
 (⟨"_law_lots",["_law_web_here"],top 41,["_law_web_here","_law_found","_law_number"],q90,false⟩:Row),
 (⟨"_law_marks",["_law_web_here","_law_lot"],top 42,["_law_web_here","_law_lot","_law_marks_here","_law_number","_law_one","_law_other","_law_first","_law_second"],n70,false⟩:Row),
 (⟨"_law_good",["_law_web_here","_law_lot","_law_places"],top 43,["_law_web_here","_law_lot","_law_places","_law_marks_here"],r00,false⟩:Row),
 (⟨"_law_cell_at",["_law_script","_law_k"],top 44,["_law_script","_law_k"],f60,false⟩:Row),
 (⟨"_law_state",["_law_script","_law_k"],top 45,["_law_script","_law_k","_law_cell"],j00,false⟩:Row),
 (⟨"_law_take",["_law_state_here","_law_many"],top 46,["_law_state_here","_law_many","_law_found","_law_stirred"],r10,false⟩:Row),
 (⟨"_law_mixed",["_law_state_here","_law_many"],top 47,["_law_state_here","_law_many","_law_left","_law_found"],n80,false⟩:Row),
 (⟨"_law_web",["_law_state_here","_law_most"],top 48,["_law_state_here","_law_most","_law_many","_law_names","_law_way_here","_law_ties","_law_at","_law_turn","_law_one","_law_other"],v80,false⟩:Row),
 (⟨"_law_same",["_law_found","_law_due_here"],top 49,["_law_found","_law_due_here"],l40,false⟩:Row),
 (⟨"_law_bad_web",["_law_state_here"],top 50,["_law_state_here","_law_some"],j80,false⟩:Row),
 (⟨"_law_way",["_law_web_here","_law_tree","_law_start","_law_end"],top 52,["_law_web_here","_law_tree","_law_start","_law_end","_law_rows","_law_longer","_law_here","_law_way_here","_law_number"],o70,false⟩:Row),
 (⟨"_law_due",["_law_web_here"],top 53,["_law_web_here","_law_every","_law_found","_law_lot","_law_lacking","_law_number","_law_way_here"],o80,false⟩:Row),
 (⟨"law",["_law_script"],top 54,["_law_script","_law_k","_law_state_here","_law_web_here","_law_due_here","_law_none"],W61,true⟩:Row)]
def T:List Df:=[(Df.code 1 1 F40:Df),(Df.code 2 2 v40:Df),(Df.code 2 4 J90:Df),(Df.code 2 2 v50:Df),(Df.code 1 3 K00:Df),(Df.code 1 1 W60:Df),(Df.code 2 2 f30:Df),(Df.code 1 1 l30:Df),(Df.code 2 2 j60:Df),(Df.code 1 1 n30:Df),(Df.code 2 10 v60:Df),(Df.code 3 4 n40:Df),(Df.code 1 3 o60:Df),(Df.code 2 2 n50:Df),(Df.code 1 1 j70:Df),(Df.code 1 2 v70:Df),(Df.code 2 2 q70:Df),(Df.code 2 2 n60:Df),(Df.code 3 4 g60:Df),(Df.code 2 3 q80:Df),(Df.code 1 1 h50:Df),(Df.code 1 3 q90:Df),(Df.code 2 8 n70:Df),(Df.code 3 4 r00:Df),(Df.code 2 2 f60:Df),(Df.code 2 3 j00:Df),(Df.code 2 4 r10:Df),(Df.code 2 4 n80:Df),(Df.code 2 10 v80:Df),(Df.code 2 2 l40:Df),(Df.code 1 2 j80:Df),(Df.code 4 9 o70:Df),(Df.code 1 7 o80:Df),(Df.code 1 6 W61:Df)]
theorem N52:tabOf rows=T:=rfl
end K3
namespace K3
open Q
open L2 (D)
def o52:D->Bool
 |.int _=>true|_=>false
theorem C20(k:Nat)(x:D)(z:Z):c00 T (k + 3) v00 [.d x] z=some (.ok (.d (.bl (o52 x))) z):=by
 cases z <;> cases x <;> rfl
def d30(x:D)(m:Int):Bool:=match x with
 |.int i=>decide (0<=i)&&decide (i < m)|_=>false
theorem r20(k:Nat)(x:D)(m:Int)(z:Z):c00 T (k + 4) o50 [.d x,.d (.int m)] z=some (.ok (.d (.bl (d30 x m))) z):=by
 refine W.ok (n10 (ps:=2) (ns:=2) (b:=v40) rfl rfl (-0) (Wo (C20 (k:=k) x z) ?_))
 cases x with
 |int i=>exact ib (b:=decide (0<=i)) (λh=>sb (show decide (i < m)=(decide (0<=i)&&decide (i < m)) by rw[h];rfl)) λh=>sb (show false=(decide (0<=i)&&decide (i < m)) by rw[h];rfl)|_=>exact sb rfl
def z01(x:D)(m:Int):Bool:=match x with
 |.tup [a,b]=>d30 a m&&(d30 b m&&(match a,b with
  |.int i,.int j=>decide (i < j)
  |_,_=>false))
 |_=>false
theorem k70(h:d30 x m=true):∃ i,x=.int i/\0<=i/\i < m:=by
 cases x with
 |int i =>
  unfold d30 at h;rw[Â,decide_eq_true_eq,decide_eq_true_eq] at h;exact⟨i,rfl,h⟩
 |_=>cases h
theorem v31(k:Nat)(x:D)(m:Int)(z:Z):c00 T (k + 5) c31 [.d x,.d (.int m)] z=some (.ok (.d (.bl (z01 x m))) z):=by
 refine W.ok (n10 (ps:=2) (ns:=4) (b:=J90) rfl rfl (-0) ?_)
 cases x with
 |tup l =>
  match l with
  |[a,b] =>
   refine Wo (r20 k a m z) (ib (b:=d30 a m) (λh1=>Wo (r20 k b m z) (ib (b:=d30 b m) (λh2=>?_) λh=>?_)) λh=>?_)
   ·obtain⟨i,rfl,_⟩:=k70 h1;obtain⟨j,rfl,_⟩:=k70 h2;exact sb (show decide (i < j)=(d30 (.int i) m&&(d30 (.int j) m&&decide (i < j))) by rw[h1,h2];rfl)
   ·exact sb (show false=(d30 a m&&(d30 b m&&_)) by rw[h1,h];rfl)
   ·exact sb (show false=(d30 a m&&_) by rw[h];rfl)
  |[]=>exact sb rfl|[_]=>exact sb rfl|_::_::_::_=>exact sb rfl
 |_=>exact sb rfl
theorem F50(l:List D)(p:D->Bool):bfD .all [.lst (l.map λx=>D.bl (p x))]=some (.d (.bl (l.all p))):=by
 have h:(l.map λx=>D.bl (p x)).mapM asB=some (l.map p):=by
  induction l with
  |nil=>rfl
  |cons x r ih =>
   rw[Ç0,Õ1,ih];rfl
 show((l.map λx=>D.bl (p x)).mapM asB).map _=_;rw[h];simp[all_map]
theorem t10(l:List D)(n:Nat):cutD l (some (n:Int)) none=l.drop n:=by
 have h1:HT.sIx l.length 0 (some (n:Int))=min n l.length:=HT.l31 l.length 0 n;unfold cutD;rw[h1];show((l.drop (min n l.length)).take (l.length - min n l.length))=_;rcases Nat.le_total n l.length with h | h
 ·rw[Nat.min_eq_left h,Ê3 (by rw[É9];omega)]
 ·rw[Nat.min_eq_right h,drop_length,List.take_nil,List.drop_of_length_le h]
theorem y50:∀ a b:List D,(u40 a b).length<=a.length
 |[],_=>Ì _|_::_,[]=>Æ6 _|_::r,_::q=>Ú0 (y50 r q)
theorem W70:∀ {a b:List D}{d:D},d∈u40 a b->∃ x∈a,∃ y∈b,d=.tup [x,y]
 |x::r,y::q,d,h=>by
  rcases è.mp h with h | h
  ·exact⟨x,É,y,É,h⟩
  ·obtain⟨u,hu,v,hv,e⟩:=W70 h;exact⟨u,Ê _ hu,v,Ê _ hv,e⟩
def leD:D->Bool
 |.tup [.tup a,.tup b]=>(match m20 a,m20 b with
  |some ns,some ms=>HT.leB ns ms
  |_,_=>false)
 |_=>false
def c51(l:List D):Bool:=(u40 l (l.drop 1)).all leD
def W80(x:D)(m:Int):Bool:=match x with
 |.tup l=>decide (l.length<=8)&&(l.all (λt=>z01 t m)&&c51 l)|_=>false
theorem Q00(h:z01 x m=true):∃ i j,x=.tup [.int i,.int j]/\0<=i/\i < j/\j < m:=by
 cases x with
 |tup l =>
  match l,h with
  |[a,b],h =>
   unfold z01 at h;rw[Â,Â] at h;obtain⟨h1,h2,h3⟩:=h;obtain⟨i,rfl,i1,i2⟩:=k70 h1;obtain⟨j,rfl,j1,j2⟩:=k70 h2;exact⟨i,j,rfl,i1,of_decide_eq_true h3,j2⟩
 |_=>cases h
theorem r30(h:n<=1000):n<=most:=Ò h (-0)
theorem W90(k:Nat)(x:D)(m:Int)(z:Z):c00 T (k + 6) E70 [.d x,.d (.int m)] z=some (.ok (.d (.bl (W80 x m))) z):=by
 refine W.ok (n10 (ps:=2) (ns:=2) (b:=v50) rfl rfl (-0) ?_)
 cases x with
 |tup l =>
  refine ib (b:=decide ((8:Int) < (l.length:Int))) (λh=>?_) λh=>?_
  ·refine sb (show false=(decide (l.length<=8)&&_) from ?_);rw[decide_eq_true_eq] at h;rw[decide_eq_false ∅];rfl
  ·rw[decide_eq_false_iff_not] at h;have h8:l.length<=8:=by omega
   refine ip (r30 ∅) (c21 (λx=>.bl (z01 x m)) (λx _=>Wo (v31 k x m z) ⟨rfl,rfl⟩) ?_)
   refine(a00 (F50 l λx=>z01 x m) ?_ :);refine ib (b:=!l.all λx=>z01 x m) (λh=>?_) λh2=>?_
   ·exact sb (show false=(decide (l.length<=8)&&(l.all (λt=>z01 t m)&&c51 l)) by rw[î] at h;rw[h,Ê5,Î1])
   ·rw[Bool.not_eq_false'] at h2;have ha:=â.mp h2;have e1:cutD l (some 1) none=l.drop 1:=t10 l 1;refine ip (c:=(u40 l (cutD l (some 1) none)).length<=most) (Ò (y50 _ _) (r30 ∅)) (c21 (λx=>.bl (leD x)) (λx hx=>?_) (a00 (F50 _ leD) ?_ :))
    ·obtain⟨u,hu,v,hv,rfl⟩:=W70 hx;rw[e1] at hv;obtain⟨i,j,rfl,_⟩:=Q00 (ha u hu);obtain⟨i',j',rfl,_⟩:=Q00 (ha v (Ó3 hv));exact⟨rfl,rfl⟩
    ·refine sb (b:=(u40 l (cutD l (some 1) none)).all leD) ?_;show _=(decide (l.length<=8)&&(l.all (λt=>z01 t m)&&c51 l));rw[e1,h2,decide_eq_true h8,È5,È5];rfl
 |_=>exact sb rfl
def E72(a t:D):Bool:=match a with
 |.int m=>decide (1<=m)&&(decide (m<=6)&&W80 t m)|_=>false
def z11(x:D):Bool:=match x with
 |.tup [a,t]=>E72 a t|_=>false
theorem Q10(k:Nat)(x:D)(z:Z):c00 T (k + 7) c41 [.d x] z=some (.ok (.d (.bl (z11 x))) z):=by
 refine W.ok (n10 (ps:=1) (ns:=3) (b:=K00) rfl rfl (-0) ?_)
 cases x with
 |tup l =>
  match l with
  |[a,t] =>
   refine Wo (C20 (k + 3) a _) ?_;cases a with
   |int m =>
    refine ib (b:=decide (1<=m)) (λg1=>ib (b:=decide (m<=6)) (λg2=>Wo (W90 k t m _) ?_) λg2=>?_) λg1=>?_
    ·exact sb (show W80 t m=(decide (1<=m)&&(decide (m<=6)&&W80 t m)) by rw[g1,g2];rfl)
    ·exact sb (show false=(decide (1<=m)&&(decide (m<=6)&&W80 t m)) by rw[g1,g2];rfl)
    ·exact sb (show false=(decide (1<=m)&&(decide (m<=6)&&W80 t m)) by rw[g1];rfl)
   |_=>exact sb rfl
  |[]=>exact sb rfl|[_]=>exact sb rfl|_::_::_::_=>exact sb rfl
 |_=>exact sb rfl
theorem x20(k:Nat)(z:Z)(h:z11 x=true):c00 T (k + 8) l20 [.d x] z=some (.ok (.d .non) z) :=
 W.ok (n10 (ps:=1) (ns:=1) (b:=l30) rfl rfl (-0) (Wo (Q10 k x z) (ie (b:=!z11 x) (by rw[h];rfl) (sd rfl))))
theorem Q20(k:Nat)(z:Z)(h:z11 x=false):c00 T (k + 8) l20 [.d x] z=some (.er 0 z) :=
 W.er (n10 (ps:=1) (ns:=1) (b:=l30) rfl rfl (-0) (Wo (Q10 k x z) (it (b:=!z11 x) (by rw[h];rfl) ⟨rfl,B50 z⟩)))
theorem o62(hj:0 < j):T90 .mod (.int i) (.int j)=some (.d (.int (i % j))):=by
 show(if 0 < j then some (S.d (.int (i % j))) else none)=_;rw[if_pos hj]
def big(b:Int):Prop:=b < 2 ^ 4000
def chI(t b:Int):Bool:=(decide (1<=b)&&decide (b<=1000))&&((decide (0<=t)&&decide (t<=b))&&(((gcd t b:Nat):Int) == 1))
def chP:D->D->Bool
 |.int t,.int b=>chI t b|_,_=>false
def chD:D->Bool
 |.tup [d,e]=>chP d e|_=>false
def ZI(z:Z):Prop:=∃ n b,z=some (n,b)/\0<=n/\(b=false->n < 2147483647)
theorem r32{T:List Df}{k f ps ns:Nat}{b:Sm}{l:List S}{z:Z}{Q:S->Z->Prop}{E:Nat->Z->Prop}(hz:ZI z)(h:T[f]?=some (.code ps ns b))(hl:l.length=ps)(hn:ps<=ns)(q:WS (Z90 T (k + 2)) false b (start ns (l.map plS)) z (λo z1=>match o with
  |.nx _=>Q (.d .non) z1
  |.rt s=>Q s z1) E):W (c00 T (k + 3) f l) z Q E:=by
 obtain⟨n,c,rfl,_⟩:=hz;refine n10 h hl hn (q.mono (λo z1 h=>?_) λ_ _ h=>h);cases o <;> exact h
theorem v41{a:Int}{n:Nat}(h:a.natAbs < n)(hn:n<=2 ^ 64:=by decide):a.natAbs < p01:=Ø h (Ò hn (-0))
theorem v51{i j:Int}(hi:i.natAbs < 2 ^ 64)(hj:j.natAbs < 2 ^ 64):T90 .mul (.int i) (.int j)=some (.d (.int (i * j))):=by
 show(if i.natAbs < p01/\j.natAbs < p01 then some (S.d (.int (i * j))) else none)=_;rw[if_pos ⟨v41 hi,v41 hj⟩]
theorem B82{i j:Int}(hj:0 < j)(hb:j.natAbs < 2 ^ 64):T90 .fdiv (.int i) (.int j)=some (.d (.int (i / j))):=by
 show(if 0 < j/\j.natAbs < p01 then some (S.d (.int (i / j))) else none)=_;rw[if_pos ⟨hj,v41 hb⟩]
def Drawn(m:Int)(s:S)(z1:Z):Prop:=ZI z1/\∃ r:Nat,s=.d (.int r)/\(r:Int) < m
theorem t20(k:Nat)(m:Int)(hz:ZI z)(m0:0 < m)(m1:m < 2 ^ 32):W (c00 T (k + 3) c50 [.z,.d (.int m)]) z (Drawn m) NE:=by
 have fin:∀ (a:Int) (z1:Z),ZI z1->Drawn m (.d (.int (a % m))) z1:=λa z1 h=>by
  have h0:=emod_nonneg a (show m≠0 by omega)
  exact⟨h,(a % m).toNat,by rw[Int.toNat_of_nonneg h0],by rw[Int.toNat_of_nonneg h0];exact Int.emod_lt_of_pos _ m0⟩
 refine r32 hz (ps:=2) (ns:=4) (b:=r10) rfl rfl (-0) ?_
 obtain⟨n,b,rfl,n0,n1⟩:=hz;cases b with
 |true =>
  refine(a00 (o62 (i:=n) m0) ?_ :);refine(a00 (B82 (i:=n) m0 ∅) ?_ :)
  exact fin n _ ⟨n / m,true,rfl,Int.ediv_nonneg n0 ∅,λh=>nomatch h⟩
 |false =>
  have n1:=n1 rfl;have e1:∀ a:Int,0<=a % 2147483647/\a % 2147483647 < 2147483647:=λa=>⟨emod_nonneg _ (-0),Int.emod_lt_of_pos _ (-0)⟩
  have e2:∀ a:Int,0<=a % 2147483629/\a % 2147483629 < 2147483629:=λa=>⟨emod_nonneg _ (-0),Int.emod_lt_of_pos _ (-0)⟩
  have s1:∀ a:Int,(a % 2147483647).natAbs < 2 ^ 64:=λa=>by have:=e1 a;omega
  have s2:∀ a:Int,(a % 2147483629).natAbs < 2 ^ 64:=λa=>by have:=e2 a;omega
  refine(a00 (v51 (i:=n) (j:=48271) ∅ (-0)) ?_ :)
  have a1:=e1 (n * 48271 + 29);refine(a00 (v51 (s1 (n * 48271 + 29)) (s1 (n * 48271 + 29))) ?_ :);refine(a00 (v51 (i:=39373) (-0) (s1 (n * 48271 + 29))) ?_ :)
  refine(a00 (v51 (s2 _) (s2 _)) ?_ :);refine(a00 (v51 (i:=16807) (-0) (s2 _)) ?_ :)
  refine(a00 (o62 m0) ?_ :);exact fin _ _ ⟨_,false,rfl,a1.1,λ_=>a1.2⟩
theorem i41(k:Nat)(ns:List Int)(j:Nat)(z:Z):∃ c:Int,c00 T (k + 3) q00 [.d (.lst (ns.map D.int)),.d (.int j)] z=some (.ok (.d (.int c)) z):=by
 by_cases h:j < ns.length
 ·refine⟨ns[j],W.ok (n10 (ps:=2) (ns:=2) (b:=f60) rfl rfl (-0) (it (b:=decide ((j:Int) < ((ns.map D.int).length:Int))) (by simp[h]) ?_))⟩
  refine(a00 (o:=L40 (.lst (ns.map D.int)) (.int j)) (L2.u70 (v:=.int ns[j]) (by simp[h])) ?_ :)
  exact sd rfl
 ·exact⟨0,W.ok (n10 (ps:=2) (ns:=2) (b:=f60) rfl rfl (-0) (ie (b:=decide ((j:Int) < ((ns.map D.int).length:Int))) (by simp;omega) (sd rfl)))⟩
theorem H21(k:Nat)(ns:List Int)(j:Nat)(z:Z):∃ (n:Int) (b:Bool),ZI (some (n,b))/\c00 T (k + 4) x00 [.d (.lst (ns.map D.int)),.d (.int j)] z=some (.ok (.fr [.int n,.bl b]) z):=by
 obtain⟨c,hc⟩:=i41 k ns j z;by_cases h:(10 ^ 18:Int)<=c
 ·exact⟨c - 10 ^ 18,true,⟨_,_,rfl,by omega,λh=>nomatch h⟩,W.ok (n10 (ps:=2) (ns:=3) (b:=j00) rfl rfl (-0) (Wo hc (it (b:=decide ((10 ^ 18:Int)<=c)) (decide_eq_true h) (sd rfl))))⟩
 ·refine⟨c % 2147483647,false,⟨_,_,rfl,emod_nonneg _ (-0),λ_=>Int.emod_lt_of_pos _ (-0)⟩,W.ok (n10 (ps:=2) (ns:=3) (b:=j00) rfl rfl (-0) (Wo hc (ie (b:=decide ((10 ^ 18:Int)<=c)) (decide_eq_false h) (sd rfl))))⟩
theorem Q30(h0:0<=m)(h1:m < 100000):itD .rng1 [.int m]=some ((Ú m.toNat).map λ(i:Nat)=>D.int i):=by
 show(if inR m=true then _ else none)=_;rw[if_pos (A10.mpr ⟨by omega,h1⟩)]
theorem ne_nil(h:okD (.lst l)=true):C80 .ne (.lst l) (.lst [])=some (!l.isEmpty):=by
 show(eqO (.lst l) (.lst [])).map (!·)=_;unfold eqO;rw[h];cases l <;> rfl
theorem K10:∀ l:List Int,e20 (l.map D.int)=true/\g00 (l.map D.int)=0
 |[]=>⟨rfl,rfl⟩
 |x::r=>by
  obtain⟨h1,h2⟩:=K10 r;refine⟨h1,?_⟩;show Nat.max 0 (g00 (r.map D.int))=0;rw[h2];rfl
theorem Q40(l:List Int):okD (.lst (l.map D.int))=true:=by
 obtain⟨h1,h2⟩:=K10 l;show(e20 (l.map D.int)&&decide (g00 (l.map D.int) + 1<=40))=true;rw[h1,h2];rfl
theorem K20(n:Nat):(Ú n).map (λ(i:Nat)=>D.int i)=((Ú n).map λ(i:Nat)=>(i:Int)).map D.int:=by
 rw[Á7];rfl
theorem x30(f:α->β):∀ (l:List α) (i:Nat),(l.map f).eraseIdx i=(l.eraseIdx i).map f
 |[],_=>rfl|x::r,0=>rfl|x::r,i + 1=>congrArg (f x::·) (x30 f r i)
theorem F60:∀ (l:List α) (j:Nat) (h:j < l.length),(l[j]::l.eraseIdx j).Perm l
 |x::r,0,_=>.refl _|x::r,j + 1,h=>(List.Perm.swap _ _ _).trans ((F60 r j (Nat.lt_of_succ_lt_succ h)).cons x)
theorem v90{l:List Int}{j:Nat}(h:j < l.length):(l.map D.int)[j]?=some (.int l[j]):=by rw[à,Ù h];rfl
theorem v61{j:Nat}(h:l[j]?=some x):L40 (.lst l) (.int j)=some x:=L2.u70 h
theorem i51{j:Nat}(h:l[j]?=some x):L40 (.tup l) (.int j)=some x:=L2.u70 h
theorem W71(k:Nat){m:Int}{z:Z}(hz:ZI z)(m0:1<=m)(m1:m<=100):W (c00 T (k + 4) x10 [.z,.d (.int m)]) z (λs z1=>ZI z1/\∃ l:List Int,s=.d (.tup (l.map D.int))/\(l.length:Int)=m/\(∀ x∈l,0<=x/\x < m)/\l.Nodup) NE:=by
 refine r32 hz (ps:=2) (ns:=4) (b:=n80) rfl rfl (-0) ?_
 refine(a00 (o:=lrD [.int m]) (Q30 ∅ ∅) ?_ :)
 refine o32 (λn ρ z1=>ZI z1/\∃ left found:List Int,ρ=[some .z,some (.d (.int m)),some (.fr (left.map D.int)),some (.fr (found.map D.int))]/\n=left.length/\(left++found).Nodup/\(∀ x∈left++found,0<=x/\x < m)/\((left.length + found.length:Nat):Int)=m) m.toNat ?_ (by show m.toNat < 20000;omega) ?_
 ·refine⟨hz,(Ú m.toNat).map λ(i:Nat)=>(i:Int),[],?_,by simp,?_,?_,by simp;omega⟩
  ·rw[← K20];rfl
  ·rw[Á9];exact Ø1.mpr (Ù4.imp λh e=>h (Int.ofNat_inj.mp e))
  ·intro x hx;rw[Á9] at hx;obtain⟨i,hi,rfl⟩:=Î.mp hx;have:=Ý.mp hi;omega
 ·rintro n ρ z1 ⟨hz1,left,found,rfl,rfl,nd,hm,hl⟩;refine(a00 (ne_nil (Q40 left)) ?_ :);cases left with
  |nil=>exact⟨hz1,found,rfl,by simpa using hl,λx hx=>hm x (by simpa using hx),by simpa using nd⟩
  |cons x r =>
   have hl2:((r.length + 1 + found.length:Nat):Int)=m:=by simpa using hl
   refine(t20 k (((x::r).map D.int).length:Int) hz1 (by simp only[Ç,Ô];omega) (by simp only[Ç,Ô];omega)).imp λs z2 ⟨hz2,j,e,v1⟩=>?_
   subst e;have hj:j < (x::r).length:=by simp only[Ç] at v1;omega
   have hget:((x::r).map D.int)[j]?=some (.int ((x::r)[j])):=v90 hj;have ha:p61 [some .z,some (.d (.int m)),some (.fr ((x::r).map D.int)),some (.fr (found.map D.int))] 3 2 (found.map D.int) ((x::r).map D.int) j=some (.nx [some .z,some (.d (.int m)),some (.fr (((x::r).map D.int).eraseIdx j)),some (.fr (found.map D.int++[.int ((x::r)[j])]))]):=by
    unfold p61;rw[if_pos ⟨by decide,by omega,A10.mpr (by simp only[Ô] at hj;omega),by rw[Ç];simp only[most];omega⟩,Ã1,hget]
    rfl
   refine a00 (o:=(pl [S.d (.int j)]).bind asI) (a:=(j:Int)) rfl (a00 ha ?_);refine⟨((x::r).eraseIdx j).length,?_,hz2,(x::r).eraseIdx j,found++[(x::r)[j]],?_,rfl,?_,?_,?_⟩
   ·rw[Î0 hj];simp
   ·rw[x30,Á5];rfl
   ·have hp:(((x::r).eraseIdx j)++(found++[(x::r)[j]])).Perm ((x::r)++found):=by
     have h1:((x::r)[j]::(x::r).eraseIdx j).Perm (x::r):=F60 _ _ hj;have h2:(((x::r).eraseIdx j)++(found++[(x::r)[j]])).Perm ((x::r)[j]::((x::r).eraseIdx j++found)):=by
      rw[← Æ7];exact List.perm_append_singleton _ _
     exact h2.trans (h1.append_right found)
    exact hp.nodup_iff.mpr nd
   ·intro y hy;refine hm y ?_;simp only[mem_append,À8] at hy ⊢;rcases hy with hy | hy | hy
    ·exact .inl (List.mem_of_mem_eraseIdx hy)
    ·exact .inr hy
    ·exact .inl (by rw[hy];exact À2 hj)
   ·rw[Î0 hj,õ];simp only[Ô,Ã9] at hl ⊢;omega
def pr(p:Int × Int):D:=.tup [.int p.1,.int p.2]
def ky(p:Int × Int):List Int:=[p.1,p.2]
theorem N62(a b c d:Int):MySort.f80 [a,b] [c,d]=if a=c then(if b=d then false else decide (b < d)) else decide (a < c):=rfl
def Ch:List (Int × Int)->Prop
 |a::b::r=>HT.leB (ky a) (ky b)=true/\Ch (b::r)|_=>True
theorem c61(h:MySort.f80 (ky p) (ky q)=true):HT.leB (ky p) (ky q)=true:=by
 unfold HT.leB;unfold ky at h ⊢;rw[N62] at h ⊢;by_cases h1:p.1=q.1
 ·rw[if_pos h1] at h;rw[if_pos h1.symm];by_cases h2:p.2=q.2
  ·rw[if_pos h2] at h;cases h
  ·rw[if_neg h2] at h;rw[if_neg (Á0 h2)];simp only[decide_eq_true_eq] at h;simp;omega
 ·rw[if_neg h1] at h;rw[if_neg (Á0 h1)];simp only[decide_eq_true_eq] at h;simp;omega
def z21(k:Int × Int):List (Int × Int)->List (Int × Int)
 |[]=>[k]|y::r=>if MySort.f80 (ky y) (ky k) then y::z21 k r else k::y::r
def v71:List (Int × Int)->List (Int × Int)
 |[]=>[]|k::r=>z21 k (v71 r)
theorem Q50(k:Int × Int):∀ l,(z21 k l).Perm (k::l)
 |[]=>.refl _
 |y::r=>by
  unfold z21;split
  ·exact((Q50 k r).cons y).trans (.swap _ _ _)
  ·exact .refl _
theorem F70:∀ l,(v71 l).Perm l
 |[]=>.refl _|k::r=>(Q50 k _).trans ((F70 r).cons k)
theorem v81(k:Int × Int):∀ l,Ch l->Ch (z21 k l)
 |[],_=>trivial
 |[y],_=>by
  unfold z21;split
  ·rename_i h;exact⟨c61 h,trivial⟩
  ·rename_i h;refine⟨?_,trivial⟩;unfold HT.leB;simpa using h
 |y::x::r,h=>by
  obtain⟨h1,h2⟩:=h;have ih:=v81 k (x::r) h2;unfold z21;split
  ·rename_i hy;unfold z21 at ih ⊢;split at ih
   ·rename_i hx;rw[if_pos hx];exact⟨h1,ih⟩
   ·rename_i hx;rw[if_neg hx];exact⟨c61 hy,ih⟩
  ·rename_i hy;refine⟨?_,h1,h2⟩;unfold HT.leB;simpa using hy
theorem c71:∀ l,Ch (v71 l)
 |[]=>trivial|k::r=>v81 k _ (c71 r)
theorem c81(k:Int × Int):∀ l:List (Int × Int),E41 (pr k) (l.map pr)=(z21 k l).map pr
 |[]=>rfl
 |y::r=>by
  unfold z21;show(if MySort.f80 (ky y) (ky k) then pr y::E41 (pr k) (r.map pr) else pr k::pr y::r.map pr)=_;split
  ·rw[c81 k r];rfl
  ·rfl
theorem Q60:∀ l:List (Int × Int),A00 (l.map pr)=(v71 l).map pr
 |[]=>rfl
 |k::r=>by
  show E41 (pr k) (A00 (r.map pr))=_;rw[Q60 r,c81];rfl
theorem B92(p q:Int × Int):ltD (pr p) (pr q)=some (MySort.f80 (ky p) (ky q)):=by
 show(if (p.1 == q.1)=true then(if (p.2 == q.2)=true then some false else some (decide (p.2 < q.2))) else some (decide (p.1 < q.1)))=some (if p.1=q.1 then(if p.2=q.2 then false else decide (p.2 < q.2)) else decide (p.1 < q.1));simp only[beq_iff_eq];split
 ·split <;> rfl
 ·rfl
theorem W81(p q:Int × Int):l70 (pr p) (pr q)=true:=by
 unfold l70;rw[B92];show(true&&((some (MySort.f80 (ky p) (ky q)) == some (MySort.f80 (ky p) (ky q)))&&(((p.1 == q.1)&&((p.2 == q.2)&&true)) || !([p.1,p.2] == [q.1,q.2]))))=true;rw[beq_self_eq_true,È5,È5,Ë8];by_cases h1:p.1=q.1 <;> by_cases h2:p.2=q.2 <;> simp[h1,h2]
theorem v91(l:List (Int × Int)):l80 (l.map pr)=true:=by
 refine â.mpr λx hx=>?_;obtain⟨p,_,rfl⟩:=Î.mp hx;show(true&&(true&&(l.map pr).all (l70 (pr p))))=true;refine â.mpr λy hy=>?_;obtain⟨q,_,rfl⟩:=Î.mp hy;exact W81 p q
theorem w01(h:l.length < 64):bfD .sorted [.lst (l.map pr)]=some (.fr ((v71 l).map pr)):=by
 show(if (l.map pr).length < 64/\l80 (l.map pr)=true then some (S.fr (A00 (l.map pr))) else(f92 (l.map pr)).map S.fr)=_;rw[if_pos ⟨by rw[Ç];exact h,v91 l⟩,Q60]
theorem c91:∀ {l:List (Int × Int)},Ch l->c51 (l.map pr)=true
 |[],_=>rfl|[_],_=>rfl
 |a::b::r,h=>by
  have ih:=c91 h.2;show((u40 (pr a::pr b::r.map pr) (pr b::r.map pr)).all leD)=true;have e:u40 (pr a::pr b::r.map pr) (pr b::r.map pr)=.tup [pr a,pr b]::u40 (pr b::r.map pr) (r.map pr):=rfl;rw[e,Å2,Â];exact⟨h.1,ih⟩
theorem o72:∀ l:List (Int × Int),e20 (l.map pr)=true/\g00 (l.map pr)<=1
 |[]=>⟨rfl,by decide⟩
 |p::r=>by
  obtain⟨h1,h2⟩:=o72 r;refine⟨?_,?_⟩
  ·show(u30 (pr p)&&e20 (r.map pr))=true;rw[h1];rfl
  ·show Nat.max (deep (pr p)) (g00 (r.map pr))<=1;have:deep (pr p)=1:=rfl;rw[this];exact Nat.max_le.mpr ⟨Ì _,h2⟩
theorem W91(l:List (Int × Int)):okD (.lst (l.map pr))=true:=by
 obtain⟨h1,h2⟩:=o72 l;unfold okD;rw[Â,decide_eq_true_eq];refine⟨h1,?_⟩;show g00 (l.map pr) + 1<=40;omega
def D30(m:Int)(ps:List (Int × Int)):D:=.tup [.int m,.tup (ps.map pr)]
structure c40(m:Int)(ps:List (Int × Int)):Prop where
 m1:1<=m
 m6:m<=6
 len:ps.length<=8
 tie:∀ p∈ps,0<=p.1/\p.1 < p.2/\p.2 < m
 ch:Ch ps
theorem c40.web(g:c40 m ps):z11 (D30 m ps)=true:=by
 unfold D30 z11 E72 W80;simp only[Â,decide_eq_true_eq,Â0,Ç];refine⟨g.m1,g.m6,g.len,λt ht=>?_,c91 g.ch⟩;obtain⟨p,hp,rfl⟩:=Î.mp ht;obtain⟨h1,h2,h3⟩:=g.tie p hp;unfold pr z01 d30;simp only[Â,decide_eq_true_eq];omega
def OkP(m:Int)(p:Int × Int):Prop:=0<=p.1/\p.1 < m/\0<=p.2/\p.2 < m/\p.1≠p.2
theorem o82(h1:0<=i)(hi:i < 100)(h0:-100 < m)(h:m < 100000):itD .rng2 [.int i,.int m]=some ((Ú (m - i).toNat).map λ(k:Nat)=>D.int (i + k)):=by
 show(if inR i=true/\inR m=true then _ else none)=_;rw[if_pos ⟨A10.mpr ∅,A10.mpr ∅⟩]
theorem X00{L:List D}{n:Nat}(f:D->Bool)(h:n < L.length)(ha:L.all f=true):∃ x,L[n]?=some x/\f x=true :=
 ⟨L[n],Ù h,â.mp ha _ (À2 h)⟩
def btw(a b:Int):D->Bool
 |.int i=>decide (a<=i)&&decide (i<=b)|_=>false
theorem L71(h:btw a b x=true):∃ i,x=.int i/\a<=i/\i<=b:=by
 cases x with
 |int i =>
  unfold btw at h;rw[Â,decide_eq_true_eq,decide_eq_true_eq] at h;exact⟨i,rfl,h⟩
 |_=>cases h
theorem i61(h1:a<=i)(h2:i<=b):btw a b (.int i)=true:=by
 show(decide (a<=i)&&decide (i<=b))=true;rw[decide_eq_true h1,decide_eq_true h2];rfl
theorem L81{l:List Int}(nd:l.Nodup){i j:Nat}(hi:i < l.length)(hj:j < l.length)(h:i≠j):l[i]≠l[j]:=λe=>h ((getElem_inj nd).mp e)
theorem w11(l:List D)(h:0<=n):cutD l none (some n)=l.take n.toNat:=by
 obtain⟨k,rfl⟩:=Ñ7 h;have h1:HT.sIx l.length l.length (some (k:Int))=min k l.length:=HT.l31 _ _ k;unfold cutD;rw[h1];show(l.drop 0).take (min k l.length - 0)=_;rw[List.drop_zero,Nat.sub_zero,Ã1];rcases Nat.le_total k l.length with h | h
 ·rw[Nat.min_eq_left h]
 ·rw[Nat.min_eq_right h,List.take_length,Ê3 h]
theorem K30(h:∀ p∈ps,OkP m p)(hp:OkP m p):∀ q∈ps++[p],OkP m q:=λq hq=>by
 rcases À5.mp hq with hq | hq
 ·exact h q hq
 ·rw[í.mp hq];exact hp
theorem o92{α:Type}{l:List α}{a:α}:(l++[a]).length=l.length + 1:=by rw[õ];rfl
theorem L91(a b:Int):(if b < a then b else a)=min a b/\(if b > a then b else a)=max a b:=by
 constructor <;> (split <;> omega)
abbrev X01(mo m:Int)(l:List Int)(wn:Nat)(ps:List (Int × Int))(o6 o7 o8 o9:Option S):Env:=[some .z,some (.d (.int mo)),some (.d (.int m)),some (.d (.tup (l.map D.int))),some (.d (.int wn)),some (.fr (ps.map pr)),o6,o7,o8,o9]
theorem d01:X01 mo m l wn (ps++[p]) o6 o7 o8 o9=[some .z,some (.d (.int mo)),some (.d (.int m)),some (.d (.tup (l.map D.int))),some (.d (.int wn)),some (.fr (ps.map pr++[pr p])),o6,o7,o8,o9]:=by rw[X01,Á5];rfl
theorem w21(k:Nat){mo:Int}{z:Z}(hz:ZI z)(h0:0<=mo)(h8:mo<=8):W (c00 T (k + 5) F10 [.z,.d (.int mo)]) z (λs z1=>ZI z1/\∃ m ps,s=.d (D30 m ps)/\c40 m ps/\(ps.length:Int)<=mo) NE:=by
 refine r32 hz (ps:=2) (ns:=10) (b:=v80) rfl rfl (-0) ?_
 refine(t20 (k + 1) 8 hz (-0) (-0)).imp λs z1 ⟨hz1,n,e,hn⟩=>?_
 subst e;obtain⟨x,ex,hx⟩:=X00 (L:=[D.int 5,.int 4,.int 6,.int 3,.int 4,.int 2,.int 6,.int 1]) (n:=n) (btw 1 6) (by simp only[Ô,Ã9];omega) (-0)
 obtain⟨m,rfl,m1,m6⟩:=L71 hx;refine(a00 (v61 ex) ?_ :);refine(W71 k hz1 m1 ∅).imp λs z2 ⟨hz2,l,e,ll,lm,nd⟩=>?_
 subst e;refine(t20 (k + 1) 6 hz2 (-0) (-0)).imp λs z3 ⟨hz3,wn,e,hw⟩=>?_
 subst e;refine(a00 (o82 (i:=1) (m:=m) (-0) (-0) ∅ ∅) ?_ :)
 have hll:1<=l.length:=by omega
 refine B60 (λxs ρ z=>ZI z/\(∀ x∈xs,∃ a:Nat,x=.int a/\1<=a/\(a:Int) < m)/\∃ (ps:List (Int × Int)) (o6:Option S),ρ=X01 mo m l wn ps o6 none none none/\(∀ p∈ps,OkP m p)/\ps.length + xs.length<=6) _ ⟨hz3,λx hx=>?_,[],none,rfl,(λp hp=>nomatch hp),by simp;omega⟩ ?_ ?_
 ·obtain⟨i,hi,rfl⟩:=Î.mp hx;have:=Ý.mp hi;exact⟨1 + i,by rw[Int.natCast_add];rfl,by omega,by omega⟩
 ·rintro x r ρ z4 ⟨hz4,hx,ps,o6,rfl,hp,hl⟩;obtain⟨an,rfl,a1,a2⟩:=hx x É;obtain⟨y,ey,hy⟩:=X00 (L:=[D.int (an - 1),.int (an - 1),.int 0,.int ((an:Int) / 2),.int (an - 1),.int 0]) (n:=wn) (btw 0 (an - 1)) (by simp only[Ô,Ã9];omega) (by
   simp only[Å2,all_nil,Ë8,Â];refine⟨i61 ?_ ?_,i61 ?_ ?_,i61 ?_ ?_,i61 ?_ ?_,i61 ?_ ?_,i61 ?_ ?_⟩ <;> omega)
  obtain⟨v,rfl,v0,v1⟩:=L71 hy;obtain⟨v,rfl⟩:=Ñ7 v0;have ha:an < l.length:=by omega
  have hvl:v < l.length:=by omega
  refine(a00 (i51 (v90 ha)) ?_ :);refine(a00 (v61 ey) ?_ :);refine(a00 (i51 (v90 hvl)) ?_ :);refine ip ⟨rfl,by rw[Ç];simp only[most,Ô] at hl ⊢;omega⟩ ?_
  have h1:=lm _ (À2 ha);have h2:=lm _ (À2 hvl);exact⟨hz4,λx hx'=>hx x (Ê _ hx'),ps++[(l[an],l[v])],_,(d01 (p:=(l[an],l[v]))).symm,K30 hp ⟨h1.1,h1.2,h2.1,h2.2,L81 nd ha hvl ∅⟩,by rw[o92];simp only[Ô] at hl;omega⟩
 ·rintro ρ z4 ⟨hz4,_,ps,o6,rfl,hp,hl⟩;have hl':ps.length<=6:=hl;refine W21 (λρ z5=>z5=z4/\∃ ps:List (Int × Int),ρ=X01 mo m l wn ps o6 none none none/\(∀ p∈ps,OkP m p)/\ps.length<=7) ?_ ?_
  ·refine ib (b:=(wn:Int) == 0) (λh1=>ib (b:=decide (2 < m)) (λh2=>?_) λh2=>⟨rfl,ps,rfl,hp,by omega⟩) λh1=>⟨rfl,ps,rfl,hp,by omega⟩
   rw[decide_eq_true_eq] at h2;have i2:m.toNat - 1 < l.length:=by omega
   have e2:m - 1=((m.toNat - 1:Nat):Int):=by omega
   refine(a00 (i51 (j:=0) (v90 hll)) ?_ :);refine(a00 (o:=L40 (.tup (l.map D.int)) (.int (m - 1))) (a:=.int l[m.toNat - 1]) (by rw[e2];exact i51 (v90 i2)) ?_ :)
   refine ip ⟨rfl,by rw[Ç];simp only[most];omega⟩ ?_
   have h3:=lm _ (À2 hll);have h4:=lm _ (À2 i2);exact⟨rfl,ps++[(l[0],l[m.toNat - 1])],(d01 (p:=(l[0],l[m.toNat - 1]))).symm,K30 hp ⟨h3.1,h3.2,h4.1,h4.2,L81 nd hll i2 ∅⟩,by rw[o92];omega⟩
  ·rintro ρ z5 ⟨rfl,ps,rfl,hp,hl⟩;refine W21 (λρ z6=>z6=z5/\∃ (ps:List (Int × Int)) (o6:Option S),ρ=X01 mo m l wn ps o6 none none none/\(∀ p∈ps,OkP m p)/\ps.length<=7) ?_ ?_
   ·refine ib (b:=(wn:Int) == 4) (λh1=>⟨rfl,ps.drop 1,D10 (D00 (.fr (cutD (ps.map pr) (some 1) none))) o6,?_,λp hp'=>hp p (Ó3 hp'),by rw[É9];omega⟩) λh1=>⟨rfl,ps,o6,rfl,hp,hl⟩
    have e:(ps.drop 1).map pr=cutD (ps.map pr) (some 1) none:=by rw[List.map_drop];exact(t10 _ 1).symm
    exact Eq.symm (congrArg (λx=>[some S.z,some (.d (.int mo)),some (.d (.int m)),some (.d (.tup (l.map D.int))),some (.d (.int wn)),some (.fr x),D10 (D00 (.fr (cutD (ps.map pr) (some 1) none))) o6,none,none,none]) e)
   ·rintro ρ z6 ⟨rfl,ps,o6,rfl,hp,hl⟩;refine(t20 (k + 1) 5 hz4 (-0) (-0)).imp λs z5 ⟨hz5,t,e,ht⟩=>?_
    subst e;refine(a00 (Q30 (m:=t) ∅ ∅) ?_ :)
    refine B60 (λxs ρ z=>ZI z/\∃ (ps:List (Int × Int)) (o6 o7 o8 o9:Option S),ρ=X01 mo m l wn ps o6 o7 o8 o9/\(∀ p∈ps,OkP m p)/\ps.length + xs.length<=11) _ ⟨hz5,ps,_,_,_,_,rfl,hp,by simp;omega⟩ ?_ ?_
    ·rintro x r ρ z2 ⟨hz2,ps,o6,o7,o8,o9,rfl,hp,hl⟩;refine(t20 (k + 1) m hz2 ∅ ∅).imp λs z3 ⟨hz3,a,e,a1⟩=>?_
     subst e;refine(t20 (k + 1) m hz3 ∅ ∅).imp λs z4 ⟨hz4,b,e,b1⟩=>?_
     subst e;refine ib (b:=!((a:Int) == (b:Int))) (λhab=>?_) λhab=>⟨hz4,ps,_,_,_,_,rfl,hp,by simp only[Ô] at hl;omega⟩
     refine ip ⟨rfl,by rw[Ç];simp only[most,Ô] at hl ⊢;omega⟩ ?_
     exact⟨hz4,ps++[((a:Int),(b:Int))],_,_,_,_,(d01 (p:=((a:Int),(b:Int)))).symm,K30 hp ⟨by omega,a1,by omega,b1,by simpa using hab⟩,by rw[o92];simp only[Ô] at hl;omega⟩
    ·rintro ρ z2 ⟨hz2,ps,o6,o7,o8,o9,rfl,hp,hl⟩;refine W21 (λρ z3=>ZI z3/\∃ ps:List (Int × Int),ρ=X01 mo m l wn ps o6 o7 o8 o9/\(∀ p∈ps,OkP m p)/\ps.length<=12) ?_ ?_
     ·have hl:ps.length<=11:=hl;refine(a00 (ne_nil (W91 ps)) ?_ :);cases ps with
      |nil=>exact⟨hz2,[],rfl,hp,by simp⟩
      |cons p r =>
       refine(t20 (k + 1) 3 hz2 (-0) (-0)).imp λs z3 ⟨hz3,a,e,a1⟩=>?_
       subst e;refine ib (b:=(a:Int) == 0) (λha=>?_) λha=>⟨hz3,p::r,rfl,hp,by omega⟩
       have hll:(((p::r).map pr).length:Int)=((p::r).length:Nat):=by rw[Ç]
       refine(t20 (k + 1) (((p::r).map pr).length:Int) hz3 (by rw[hll];simp only[Ô];omega) (by rw[hll];omega)).imp λs z4 ⟨hz4,j,e,b1⟩=>?_
       subst e;have hj:j < (p::r).length:=by rw[hll] at b1;omega
       refine(a00 (v61 (l:=(p::r).map pr) (x:=pr (p::r)[j]) (by rw[à,Ù hj];rfl)) ?_ :)
       refine ip ⟨rfl,by rw[Ç];simp only[most];omega⟩ ?_
       exact⟨hz4,(p::r)++[(p::r)[j]],(d01 (p:=(p::r)[j])).symm,K30 hp (hp _ (À2 hj)),by rw[o92];omega⟩
     ·rintro ρ z3 ⟨hz3,ps,rfl,hp,hl⟩;have e1:cutD (ps.map pr) none (some mo)=(ps.take mo.toNat).map pr:=by rw[w11 _ h0,List.map_take]
      have mm:(cutD (ps.map pr) none (some mo)).map (λx=>match x with | .tup [.int a,.int b]=>pr (min a b,max a b) | x=>x)=((ps.take mo.toNat).map λp=>(min p.1 p.2,max p.1 p.2)).map pr:=by
       rw[e1,Á7,Á7];rfl
      refine ip (c:=(cutD (ps.map pr) none (some mo)).length<=most) (by rw[e1,Ç,Ä5];simp only[most];omega) (c21 (λx=>match x with | .tup [.int a,.int b]=>pr (min a b,max a b) | x=>x) (λd hd=>?_) ?_)
      ·rw[e1] at hd;obtain⟨p,hp',rfl⟩:=Î.mp hd;exact⟨by show D.tup [.int _,.int _]=pr (min p.1 p.2,max p.1 p.2);rw[(L91 p.1 p.2).1,(L91 p.1 p.2).2];rfl,rfl⟩
      ·rw[mm];refine(a00 (w01 (l:=(ps.take mo.toNat).map λp=>(min p.1 p.2,max p.1 p.2)) (by rw[Ç,Ä5];omega)) ?_ :)
       have hperm:=F70 ((ps.take mo.toNat).map λp=>(min p.1 p.2,max p.1 p.2));have hlen:=hperm.length_eq;rw[Ç,Ä5] at hlen;refine⟨hz3,m,_,rfl,⟨m1,m6,by omega,λq hq=>?_,c71 _⟩,by omega⟩
       obtain⟨p,hp',rfl⟩:=Î.mp (hperm.mem_iff.mp hq);obtain⟨a0,a1,b0,b1,hab⟩:=hp p (List.mem_of_mem_take hp');dsimp only;omega
theorem w31(h:0 < b):0 < ((gcd t b:Nat):Int):=by
 have:=Int.gcd_pos_of_ne_zero_right (a:=t) (b:=b) ∅
 omega
def A20(t b:Int):Int × Int:=(t / gcd t b,b / gcd t b)
theorem X10(h0:0 < b):t=gcd t b * (A20 t b).1/\b=gcd t b * (A20 t b).2:=by
 constructor
 ·exact(Int.mul_ediv_cancel' (Int.gcd_dvd_left t b)).symm
 ·exact(Int.mul_ediv_cancel' (Int.gcd_dvd_right t b)).symm
theorem X11(h0:0 < b):gcd (A20 t b).1 (A20 t b).2=1:=Int.gcd_ediv_gcd_ediv_gcd_of_ne_zero_right ∅
theorem w41(h0:0 < b):0 < (A20 t b).2:=by
 have g0:=w31 (t:=t) h0;obtain⟨_,e⟩:=X10 (t:=t) h0;refine Int.pos_of_mul_pos_right (a:=gcd t b) ?_ g0;omega
theorem M01(h:gcd a b=1)(hd:b∣a * d):b∣d:=by
 have h1:Nat.Coprime b.natAbs a.natAbs:=by rw[Nat.coprime_comm];exact h
 exact Int.natAbs_dvd_natAbs.mp (h1.dvd_of_dvd_mul_left (by rw[← natAbs_mul];exact Int.natAbs_dvd_natAbs.mpr hd))
theorem i71(hb:0 < b)(hd:0 < d)(h1:gcd a b=1)(h2:gcd c d=1)(h:a * d=c * b):a=c/\b=d:=by
 have k1:b∣d:=M01 h1 ⟨c,by rw[h,Int.mul_comm]⟩
 have k2:d∣b:=M01 h2 ⟨a,by rw[← h,Int.mul_comm]⟩
 have e:b=d:=Int.le_antisymm (Int.le_of_dvd hd k1) (Int.le_of_dvd hb k2);subst e;exact⟨Î8 ∅ h,rfl⟩
def IsC(c:Int × Int):Prop:=1<=c.2/\c.2<=1000/\0<=c.1/\c.1<=c.2/\gcd c.1 c.2=1
theorem IsC.ch(h:IsC c):chD (pr c)=true:=by
 obtain⟨h1,h2,h3,h4,h5⟩:=h;show chI c.1 c.2=true;unfold chI;rw[h5,decide_eq_true h1,decide_eq_true h2,decide_eq_true h3,decide_eq_true h4];rfl
theorem C02{n:Nat}(f:D->Bool)(h:n < L.length)(ha:L.all f=true)(hp:∀ x,f x=true->P x):Get (L40 (.lst L) (.int n)) P:=by
 obtain⟨x,e,hx⟩:=X00 f h ha;exact a00 (v61 e) (hp x hx)
theorem w51(k:Nat)(hz:ZI z):W (c00 T (k + 4) q10 [.z]) z (λs z1=>ZI z1/\∃ x,s=.d x/\z11 x=false) NE:=by
 refine r32 hz (ps:=1) (ns:=2) (b:=j80) rfl rfl (-0) ?_
 refine(t20 k 22 hz (-0) (-0)).imp λs z1 ⟨hz1,v,e,v1⟩=>?_
 subst e;refine(C02 (n:=v) (λx=>!z11 x) ?_ ?_ ?_ :)
 ·show v < 22;omega
 ·decide +kernel
 ·exact λx hx=>⟨hz1,x,rfl,by simpa using hx⟩
def ltP:D->Bool
 |.tup [.int a,.int b]=>decide (a < b)|_=>false
def w61(l:List D):Bool:=(u40 l (l.drop 1)).all ltP
def E82(m:Int):D->Bool
 |.tup l=>(l.all (λx=>d30 x m)&&w61 l)&&!l.isEmpty|_=>false
def short:D->Bool
 |.tup l=>decide (l.length<=1000)|_=>true
theorem H31(k:Nat)(h:∀ x∈l,d30 x m=true)(hl:l.length<=1000)(z:Z):c00 T (k + 3) v21 [.d (.tup l)] z=some (.ok (.d (.bl (w61 l))) z):=by
 have e1:cutD l (some 1) none=l.drop 1:=t10 l 1;refine W.ok (n10 (ps:=1) (ns:=1) (b:=W60) rfl rfl (-0) (ip (c:=(u40 l (cutD l (some 1) none)).length<=most) (Ò (y50 _ _) (r30 hl)) (c21 (λx=>.bl (ltP x)) (λx hx=>?_) (a00 (F50 _ ltP) ?_ :))))
 ·obtain⟨u,hu,v,hv,rfl⟩:=W70 hx;rw[e1] at hv;obtain⟨i,rfl,_⟩:=k70 (h u hu);obtain⟨j,rfl,_⟩:=k70 (h v (Ó3 hv));exact⟨rfl,rfl⟩
 ·exact sb (b:=(u40 l (cutD l (some 1) none)).all ltP) (by rw[e1];rfl)
theorem Q70(k:Nat)(m:Int)(hs:short x=true)(z:Z):c00 T (k + 5) k60 [.d x,.d (.int m)] z=some (.ok (.d (.bl (match x with | .tup l=>l.all (λx=>d30 x m)&&w61 l | _=>false))) z):=by
 refine W.ok (n10 (ps:=2) (ns:=2) (b:=f30) rfl rfl (-0) ?_)
 cases x with
 |tup l =>
  have hl:l.length<=1000:=of_decide_eq_true hs;refine ip (r30 hl) (c21 (λx=>.bl (d30 x m)) (λx _=>Wo (r20 k x m z) ⟨rfl,rfl⟩) (a00 (F50 l λx=>d30 x m) ?_ :));refine ib (b:=l.all λx=>d30 x m) (λh=>?_) λh=>sb (show false=(l.all (λx=>d30 x m)&&w61 l) by rw[h];rfl)
  exact Wo (H31 (k + 1) (â.mp h) hl z) (sb (show w61 l=(l.all (λx=>d30 x m)&&w61 l) by rw[h];rfl))
 |_=>exact sb rfl
theorem C30(k:Nat)(z:Z)(h:E82 m x=true)(hs:short x=true):c00 T (k + 6) p80 [.d (.tup [.int m,t]),.d x] z=some (.ok (.d .non) z):=by
 refine W.ok (n10 (ps:=2) (ns:=2) (b:=j60) rfl rfl (-0) (Wo (Q70 k m hs z) ?_))
 cases x with
 |tup l =>
  have h:((l.all (λx=>d30 x m)&&w61 l)&&!l.isEmpty)=true:=h;rw[Â] at h;refine ie (b:=!(l.all (λx=>d30 x m)&&w61 l)) (by rw[h.1];rfl) ?_
  cases l with
  |nil=>cases h.2
  |cons y r=>exact sd rfl
 |_=>cases h
def a60(n:Nat):D:=.int n
structure w00(m:Int)(l:List Nat):Prop where
 ne:l≠[]
 up:l.Pairwise (· < ·)
 lt:∀ p∈l,(p:Int) < m
theorem M11:∀ {l:List Nat},l.Pairwise (· < ·)->w61 (l.map a60)=true
 |[],_=>rfl|[_],_=>rfl
 |a::b::r,h=>by
  have ih:=M11 (Õ5.of_cons h);show(decide ((a:Int) < (b:Int))&&w61 ((b::r).map a60))=true;rw[ih,decide_eq_true (by have:=(Æ0.mp h).1 b É;omega)];rfl
theorem w00.pls(g:w00 m l):E82 m (.tup (l.map a60))=true:=by
 show(((l.map a60).all (λx=>d30 x m)&&w61 (l.map a60))&&!(l.map a60).isEmpty)=true;rw[M11 g.up,Ë8,Â];refine⟨â.mpr λx hx=>?_,?_⟩
 ·obtain⟨p,hp,rfl⟩:=Î.mp hx;have:=g.lt p hp;show(decide (0<=(p:Int))&&decide ((p:Int) < m))=true;rw[decide_eq_true this,decide_eq_true ∅];rfl
 ·cases l with
  |nil=>exact absurd rfl g.ne|cons _ _=>rfl
theorem w00.len(g:w00 m l)(h6:m<=6):l.length<=6:=by
 have:l.Sublist (Ú 6):=by
  have e:l=(Ú 6).filter λx=>l.contains x:=by
   refine Í7 (le:=(· < ·)) ?_ g.up (É5 _ Ò0) ?_
   ·intro a b _ _ h1 h2;omega
   ·refine(Í9 (g.up.imp λh e=>by omega) (É5 _ Ù4)).mpr λa=>?_
    rw[mem_filter,Ý,Ì3];exact⟨λh=>⟨by have:=g.lt a h;omega,h⟩,λh=>h.2⟩
  rw[e];exact List.filter_sublist
 simpa using this.length_le
section
variable (ps:List (Int × Int))
abbrev tA(n:Nat):Nat:=(ps.getD n (0,0)).1.toNat
abbrev tB(n:Nat):Nat:=(ps.getD n (0,0)).2.toNat
def f40(mk:List Int)(n:Nat):List Int:=mk.map λx=>if x=mk.getD (tB ps n) 0 then mk.getD (tA ps n) 0 else x
def d70(m:Nat)(lot:List Nat):List Int:=lot.foldl (f40 ps) ((Ú m).map λ(i:Nat)=>(i:Int))
def w71(mk:List Int)(pl:List Nat):Bool:=pl.all λp=>mk.getD p 0 == mk.getD (pl.getD 0 0) 0
def g70(m:Nat)(pl lot:List Nat):Bool:=w71 (d70 ps m lot) pl
variable {ps}
theorem o90(mk:List Int)(n:Nat):(f40 ps mk n).length=mk.length:=Ç _
theorem step_get(h:x < mk.length):(f40 ps mk n).getD x 0=if mk.getD x 0=mk.getD (tB ps n) 0 then mk.getD (tA ps n) 0 else mk.getD x 0:=by
 unfold f40;rw[Ö,à,Ù h];simp[Ö,Ù h]
theorem t30:(d70 ps m lot).length=m:=by
 unfold d70;have:∀ (l:List Nat) (mk:List Int),(l.foldl (f40 ps) mk).length=mk.length:=by
  intro l
  induction l with
  |nil=>intro mk;rfl|cons n r ih=>intro mk;rw[É6,ih,o90]
 rw[this];simp
theorem i81(hr:∀ n < ps.length,tA ps n < m/\tB ps n < m):∀ (lot:List Nat) (mk:List Int),mk.length=m->(∀ n∈lot,n < ps.length) ->
  (∀ x y,x < m->y < m->mk.getD x 0=mk.getD y 0->(lot.foldl (f40 ps) mk).getD x 0=(lot.foldl (f40 ps) mk).getD y 0)/\(∀ n∈lot,(lot.foldl (f40 ps) mk).getD (tA ps n) 0=(lot.foldl (f40 ps) mk).getD (tB ps n) 0) /\
  ∀ f:Nat->Int,(∀ x y,x < m->y < m->mk.getD x 0=mk.getD y 0->f x=f y)->(∀ n∈lot,f (tA ps n)=f (tB ps n))->∀ x y,x < m->y < m->(lot.foldl (f40 ps) mk).getD x 0=(lot.foldl (f40 ps) mk).getD y 0->f x=f y:=by
 intro lot
 induction lot with
 |nil=>exact λmk _ _=>⟨λ_ _ _ _ h=>h,(λ_ h=>nomatch h),λf h _=>h⟩
 |cons n r ih =>
  intro mk hl hn;obtain⟨ha,hb⟩:=hr n (hn n É);obtain⟨i1,i2,i3⟩:=ih (f40 ps mk n) (by rw[o90];exact hl) λk hk=>hn k (Ê _ hk)
  have st:∀ x,x < m->(f40 ps mk n).getD x 0=if mk.getD x 0=mk.getD (tB ps n) 0 then mk.getD (tA ps n) 0 else mk.getD x 0:=λx hx=>step_get ∅
  refine⟨λx y hx hy h=>i1 x y hx hy (by rw[st x hx,st y hy,h]),λk hk=>?_,λf h1 h2=>?_⟩
  ·rcases è.mp hk with rfl | hk
   ·refine i1 _ _ ha hb ?_;rw[st _ ha,st _ hb,if_pos rfl];split <;> rfl
   ·exact i2 k hk
  ·refine i3 f (λx y hx hy h=>?_) λk hk=>h2 k (Ê _ hk);have e:=h2 n É;rw[st x hx,st y hy] at h;split at h
   ·rename_i hxb;have fx:=h1 _ _ hx hb hxb;split at h
    ·rename_i hyb;rw[fx,h1 _ _ hy hb hyb]
    ·rw[fx,← e];exact h1 _ _ ha hy h
   ·split at h
    ·rename_i hyb;rw[h1 _ _ hy hb hyb,← e];exact h1 _ _ hx ha h
    ·exact h1 _ _ hx hy h
theorem Q80(h:x < m):(((Ú m).map λ(i:Nat)=>(i:Int))).getD x 0=(x:Int):=by
 rw[Ö,à,Ô8 h];rfl
theorem t40{m:Nat}(hr:∀ n < ps.length,tA ps n < m/\tB ps n < m){pl lot:List Nat}(hp:∀ p∈pl,p < m)(hl:∀ n∈lot,n < ps.length):g70 ps m pl lot=true↔∀ f:Nat->Int,(∀ n∈lot,f (tA ps n)=f (tB ps n))->∀ p∈pl,f p=f (pl.getD 0 0):=by
 obtain⟨_,h2,h3⟩:=i81 hr lot ((Ú m).map λ(i:Nat)=>(i:Int)) (by simp) hl
 unfold g70 w71;rw[Â0];have h0:∀ p∈pl,pl.getD 0 0 < m:=λp hp'=>by
  cases pl with
  |nil=>cases hp'
  |cons q r=>exact hp q É
 constructor
 ·intro h f hf p hp';refine h3 f (λx y hx hy e=>?_) hf p _ (hp p hp') (h0 p hp') (beq_iff_eq.mp (h p hp'));rw[Q80 hx,Q80 hy] at e;rw[Int.ofNat_inj.mp e]
 ·intro h p hp';rw[beq_iff_eq];exact h (λx=>(d70 ps m lot).getD x 0) h2 p hp'
end
section
variable (g:List Nat->Bool) (c:Nat->Int × Int)
variable {g c}
def c30:Nat->List (List Nat)
 |0=>[[]]|j + 1=>c30 j++(c30 j).map (·++[j])
theorem j90:∀ {j:Nat}{lot:List Nat},lot∈c30 j->∀ n∈lot,n < j
 |0,lot,h,n,hn=>by rw[í.mp h] at hn;cases hn
 |j + 1,lot,h,n,hn=>by
  rcases À5.mp h with h | h
  ·exact Ì5 (j90 h n hn)
  ·obtain⟨l,hl,rfl⟩:=Î.mp h;rcases À5.mp hn with hn | hn
   ·exact Ì5 (j90 hl n hn)
   ·rw[í.mp hn];exact Ú1 j
end
theorem itE{it:It}{e:Ex}{l:List S}{ρ:Env}(h:O10 l=true):p51 it e l ρ=O20 it e l ρ:=by unfold p51;rw[h,O00];rfl
theorem c70:∀ l:List Nat,i70 (l.map a60)=true
 |[]=>rfl|_::r=>c70 r
structure Row(x:D)(lot:List Nat):Prop where
 sq:Z70 x=some (lot.map a60)
 br:R11 x=true
theorem Row.t(lot:List Nat):Row (.tup (lot.map a60)) lot:=⟨rfl,c70 lot⟩
theorem Row.ba(h:Row x lot):O10 [.d x]=true:=by
 show(R11 x&&true)=true;rw[h.br];rfl
theorem Q90{mk:List Int}{a:Int}(h0:0<=a)(h:a.toNat < mk.length):L40 (.lst (mk.map D.int)) (.int a)=some (.int (mk.getD a.toNat 0)):=by
 obtain⟨n,rfl⟩:=Ñ7 h0;rw[Ã1] at h ⊢;rw[Ö,Ù h];exact v61 (v90 h)
theorem w81{ps:List (Int × Int)}{n:Nat}(h:n < ps.length):L40 (.tup (ps.map pr)) (.int n)=some (pr (ps.getD n (0,0))):=by
 rw[Ö,Ù h];exact i51 (by rw[à,Ù h];rfl)
theorem getD_mem{ps:List (Int × Int)}{n:Nat}(h:n < ps.length):ps.getD n (0,0)∈ps:=by
 rw[Ö,Ù h];exact À2 h
theorem c40.rng{m:Int}{ps:List (Int × Int)}(g:c40 m ps):∀ n < ps.length,tA ps n < m.toNat/\tB ps n < m.toNat:=λn hn=>by
 have:=g.tie _ (getD_mem hn);unfold tA tB;omega
def E92(a b:Int):D->D
 |.int v=>.int (if v=b then a else v)|x=>x
theorem w91{F:FT}{z:Z}{mk:List Int}(a b:Int){Q:List D->Z->Prop}{E:Nat->Z->Prop}(q:Q ((mk.map λx=>if x=b then a else x).map D.int) z):W (turns (u90 (ev F .nil) (ev F (.ite (.cmp .eq (.var 0) (.var 2)) (.var 1) (.var 0))) (.v 0) [none,some (.d (.int a)),some (.d (.int b))]) (mk.map D.int)) z Q E:=by
 refine c21 (E92 a b) (λx hx=>?_) ?_
 ·obtain⟨v,_,rfl⟩:=Î.mp hx;refine ib (b:=v == b) (λh=>⟨?_,rfl⟩) λh=>⟨?_,rfl⟩
  ·show D.int a=.int (if v=b then a else v);rw[if_pos (beq_iff_eq.mp h)]
  ·show D.int v=.int (if v=b then a else v);rw[if_neg (by simpa using h)]
 ·have e:(mk.map D.int).map (E92 a b)=(mk.map λx=>if x=b then a else x).map D.int:=by rw[Á7,Á7];rfl
  rw[e];exact q
theorem X20(k:Nat){m:Int}{ps:List (Int × Int)}(g:c40 m ps){x:D}{lot:List Nat}(hx:Row x lot)(hl:∀ n∈lot,n < ps.length)(z:Z):c00 T (k + 3) E80 [.d (D30 m ps),.d x] z=some (.ok (.fr ((d70 ps m.toNat lot).map D.int)) z):=by
 have m6:=g.m6;have m1:=g.m1;refine W.ok (n10 (ps:=2) (ns:=10) (b:=v60) rfl rfl (-0) ?_)
 refine(a00 (o:=lrD [.int m]) (Q30 ∅ ∅) ?_ :)
 refine a00 (o:=Z70 x) hx.sq ?_;refine B60 (λxs ρ z1=>z1=z/\∃ (rest:List Nat) (mk:List Int) (o5 o6 o7 o8 o9:Option S),xs=rest.map a60/\(∀ n∈rest,n < ps.length)/\mk.length=m.toNat/\rest.foldl (f40 ps) mk=d70 ps m.toNat lot/\ρ=[some (.d (D30 m ps)),some (.d x),some (.d (.int m)),some (.d (.tup (ps.map pr))),some (.fr (mk.map D.int)),o5,o6,o7,o8,o9]) _ ⟨rfl,lot,(Ú m.toNat).map λ(i:Nat)=>(i:Int),none,none,none,none,none,rfl,hl,by simp,rfl,(itE hx.ba).trans ?_⟩ ?_ ?_
 ·rw[← K20];rfl
 ·rintro y r ρ z1 ⟨rfl,rest,mk,o5,o6,o7,o8,o9,e,hr,hm,hf,rfl⟩;cases rest with
  |nil=>cases e
  |cons n rest =>
   cases e;have hn:=hr n É;have ht:=g.tie _ (getD_mem hn);refine(a00 (w81 hn) ?_ :);refine(a00 (Q90 (mk:=mk) ht.1 ∅) ?_ :)
   refine(a00 (Q90 (mk:=mk) (a:=(ps.getD n (0,0)).2) ∅ ∅) ?_ :)
   refine ip (by rw[Ç];simp only[most];omega) (w91 _ _ ?_)
   exact⟨rfl,rest,f40 ps mk n,_,_,_,_,_,rfl,λk hk=>hr k (Ê _ hk),by rw[o90];exact hm,hf,rfl⟩
 ·rintro ρ z1 ⟨rfl,rest,mk,o5,o6,o7,o8,o9,e,hr,hm,hf,rfl⟩;cases rest with
  |nil=>exact sd (by rw[← hf];rfl)|cons _ _=>cases e
theorem R00(k:Nat)(g:c40 m ps)(hx:Row x lot)(hl:∀ n∈lot,n < ps.length)(z:Z):c00 T (k + 3) w90 [.d (D30 m ps),.d x] z=some (.ok (.fr ((d70 ps m.toNat lot).map D.int)) z):=by
 have m6:=g.m6;have m1:=g.m1;refine W.ok (n10 (ps:=2) (ns:=8) (b:=n70) rfl rfl (-0) ?_)
 refine(a00 (o:=lrD [.int m]) (Q30 ∅ ∅) ?_ :)
 refine a00 (o:=Z70 x) hx.sq ?_;refine B60 (λxs ρ z1=>z1=z/\∃ (rest:List Nat) (mk:List Int) (o3 o4 o5 o6 o7:Option S),xs=rest.map a60/\(∀ n∈rest,n < ps.length)/\mk.length=m.toNat/\rest.foldl (f40 ps) mk=d70 ps m.toNat lot/\ρ=[some (.d (D30 m ps)),some (.d x),some (.fr (mk.map D.int)),o3,o4,o5,o6,o7]) _ ⟨rfl,lot,(Ú m.toNat).map λ(i:Nat)=>(i:Int),none,none,none,none,none,rfl,hl,by simp,rfl,(itE hx.ba).trans ?_⟩ ?_ ?_
 ·rw[← K20];rfl
 ·rintro y r ρ z1 ⟨rfl,rest,mk,o3,o4,o5,o6,o7,e,hr,hm,hf,rfl⟩;cases rest with
  |nil=>cases e
  |cons n rest =>
   cases e;have hn:=hr n É;have ht:=g.tie _ (getD_mem hn);refine(a00 (w81 hn) ?_ :);refine(a00 (Q90 (mk:=mk) ht.1 ∅) ?_ :)
   refine(a00 (Q90 (mk:=mk) (a:=(ps.getD n (0,0)).2) ∅ ∅) ?_ :)
   refine ip (by rw[Ç];simp only[most];omega) (w91 _ _ ?_)
   exact⟨rfl,rest,f40 ps mk n,_,_,_,_,_,rfl,λk hk=>hr k (Ê _ hk),by rw[o90];exact hm,hf,rfl⟩
 ·rintro ρ z1 ⟨rfl,rest,mk,o3,o4,o5,o6,o7,e,hr,hm,hf,rfl⟩;cases rest with
  |nil=>exact sd (by rw[← hf];rfl)|cons _ _=>cases e
section
variable {m:Int}{ps:List (Int × Int)}{pl lot:List Nat}
theorem H41{mk:List Int}{p:Nat}(h:p < mk.length):L40 (.lst (mk.map D.int)) (.int p)=some (.int (mk.getD p 0)):=Q90 (a:=(p:Int)) ∅ (by rw[Ã1];exact h)
theorem p02(h:pl≠[]):L40 (.tup (pl.map a60)) (.int 0)=some (a60 (pl.getD 0 0)):=by
 cases pl with
 |nil=>exact absurd rfl h|cons p r=>exact i51 (j:=0) rfl
theorem w00.p0(hp:w00 m pl):pl.getD 0 0 < m.toNat:=by
 have h:=hp.ne;have h2:=hp.lt;cases pl with
 |nil=>exact absurd rfl h|cons p r=>have:=h2 p É;show p < _;omega
def eqM(mk:List Int)(p0:Nat):D->Bool
 |.int p=>mk.getD p.toNat 0 == mk.getD p0 0|_=>false
theorem X21(l:List Nat):(l.map a60).all (eqM mk p0)=l.all λp=>mk.getD p 0 == mk.getD p0 0:=by rw[all_map];rfl
theorem t50(k:Nat)(g:c40 m ps)(hp:w00 m pl){x:D}(hx:Row x lot)(hl:∀ n∈lot,n < ps.length)(z:Z):c00 T (k + 4) n20 [.d (D30 m ps),.d x,.d (.tup (pl.map a60))] z=some (.ok (.d (.bl (g70 ps m.toNat pl lot))) z):=by
 have hlen:=hp.len g.m6;refine W.ok (n10 (ps:=3) (ns:=4) (b:=n40) rfl rfl (-0) (Wo (X20 k g hx hl z) ?_))
 have ml:(d70 ps m.toNat lot).length=m.toNat:=t30;generalize hmk:d70 ps m.toNat lot=mk at ml;refine ip (by rw[Ç];simp only[most];omega) (c21 (λx=>.bl (eqM mk (pl.getD 0 0) x)) (λy hy=>?_) (a00 (F50 _ (eqM mk (pl.getD 0 0))) ?_ :))
 ·obtain⟨p,hp',rfl⟩:=Î.mp hy;have:=hp.lt p hp';refine(a00 (H41 (mk:=mk) (p:=p) ∅) ?_ :)
  refine(a00 (p02 hp.ne) ?_ :);refine(a00 (H41 (mk:=mk) (by rw[ml];exact hp.p0)) ?_ :)
  exact⟨rfl,rfl⟩
 ·refine sb (b:=(pl.map a60).all (eqM mk (pl.getD 0 0))) ?_;rw[X21,← hmk];rfl
theorem X31(h:okD (.lst l)=true):C80 .eq (.lst l) (.lst [])=some l.isEmpty:=by
 show(if okD (.lst l)&&okD (.lst []) then some (eqD (.lst l) (.lst [])) else eqE (.lst l) (.lst []))=_;rw[h];cases l <;> rfl
theorem H51(l:List Nat):okD (.lst (l.map a60))=true:=by
 have e:l.map a60=(l.map λ(n:Nat)=>(n:Int)).map D.int:=by rw[Á7];rfl
 rw[e];exact Q40 _
theorem H61(l:List Nat)(f:D->Bool):(l.map a60).filter f=(l.filter λn=>f (a60 n)).map a60:=É7 ..
end
def b80(l:List Nat):D:=.tup (l.map a60)
theorem t60:∀ {j:Nat}{lot:List Nat},lot∈c30 j->lot.length<=j
 |0,lot,h=>by rw[í.mp h];exact Ì _
 |j + 1,lot,h=>by
  rcases À5.mp h with h | h
  ·exact Nat.le_succ_of_le (t60 h)
  ·obtain⟨l,hl,rfl⟩:=Î.mp h;rw[o92];exact Ú0 (t60 hl)
theorem l50:∀ j:Nat,(c30 j).length=2 ^ j
 |0=>rfl
 |j + 1=>by
  show(c30 j++(c30 j).map (·++[j])).length=_;rw[õ,Ç,l50 j,pow_succ];omega
theorem K40(h:j<=8):2 ^ j<=256:=È2 (n:=2) (-0) h
theorem add_l(h:a.length + b.length<=1000):T90 .add (.lst a) (.lst b)=some (.fr (a++b)):=by
 show(if a.length + b.length<=most then some (S.fr (a++b)) else none)=_;rw[if_pos (r30 h)]
theorem H71(h:a.length + b.length<=1000):T90 .add (.tup a) (.tup b)=some (.d (.tup (a++b))):=by
 show(if a.length + b.length<=most then some (S.d (.tup (a++b))) else none)=_;rw[if_pos (r30 h)]
def C12(j:Nat):D->D
 |.tup l=>.tup (l++[a60 j])|x=>x
theorem d11:((c30 j).map b80).map (C12 j)=((c30 j).map (·++[j])).map b80:=by
 rw[Á7,Á7];refine Å8 λl _=>?_;show D.tup (l.map a60++[a60 j])=.tup ((l++[j]).map a60);rw[Á5];rfl
theorem C40{n:Nat}(h:n < 100000):itD .rng1 [.int n]=some ((Ã3 0 n).map a60):=by
 rw[Q30 ∅ ∅,Ã1,É3];rfl
theorem X30(k:Nat)(h8:ts.length<=8)(z:Z):c00 T (k + 3) C00 [.d (.tup [.int m,.tup ts])] z=some (.ok (.fr ((c30 ts.length).map b80)) z):=by
 refine W.ok (n10 (ps:=1) (ns:=3) (b:=q90) rfl rfl (-0) ?_)
 refine(a00 (C40 (n:=ts.length) ∅) ?_ :)
 refine B60 (λxs ρ z1=>z1=z/\∃ (j r:Nat) (o2:Option S),j + r=ts.length/\xs=(Ã3 j r).map a60/\ρ=[some (.d (.tup [.int m,.tup ts])),some (.fr ((c30 j).map b80)),o2]) _ ⟨rfl,0,ts.length,none,zero_add _,rfl,rfl⟩ ?_ ?_
 ·rintro x r ρ z1 ⟨rfl,j,r',o2,hj,e,rfl⟩;cases r' with
  |zero=>cases e
  |succ r' =>
   rw[Ä4] at e;cases e;have hp:=K40 (j:=j) ∅
   refine ip (by rw[Ç,l50];simp only[most];omega) (c21 (C12 j) (λy hy=>?_) ?_)
   ·obtain⟨l,hl,rfl⟩:=Î.mp hy;have:=t60 hl;refine(a00 (H71 (a:=l.map a60) (b:=[a60 j]) (by rw[Ç];show _ + 1<=_;omega)) ?_ :)
    exact⟨rfl,rfl⟩
   ·rw[d11];refine(a00 (add_l (a:=(c30 j).map b80) (b:=((c30 j).map (·++[j])).map b80) (by rw[Ç,Ç,Ç,l50];omega)) ?_ :)
    refine⟨rfl,j + 1,r',some (.d (a60 j)),by omega,rfl,?_⟩
    exact congrArg (λl=>[some (S.d (.tup [.int m,.tup ts])),some (.fr l),some (.d (a60 j))]) Á5.symm
 ·rintro ρ z1 ⟨rfl,j,r',o2,hj,e,rfl⟩;cases r' with
  |zero=>exact sd (by rw[← show j=ts.length from hj])|succ r'=>rw[Ä4] at e;cases e
theorem K50(n:Nat):∀ l:List Nat,memD (a60 n) (l.map a60)=decide (n∈l)
 |[]=>rfl
 |x::r=>by
  show((x:Int) == (n:Int) || memD (a60 n) (r.map a60))=_;rw[K50 n r,þ,À6,beq_iff_eq,decide_eq_true_eq,decide_eq_true_eq,È8];constructor
  ·rintro (h | h)
   ·exact .inl ∅
   ·exact .inr h
  ·rintro (h | h)
   ·exact .inl ∅
   ·exact .inr h
theorem x01(l:List Nat):Z61 (l.map a60)=true:=by
 have e:l.map a60=(l.map λ(n:Nat)=>(n:Int)).map D.int:=by rw[Á7];rfl
 obtain⟨h1,h2⟩:=K10 (l.map λ(n:Nat)=>(n:Int));unfold Z61;rw[e,h1,h2];rfl
theorem K60{n:Nat}{l:List Nat}:j41 (a60 n) (l.map a60)=some (decide (n∈l)):=by
 unfold j41;rw[x01,K50];rfl
theorem x11(l:List (List Nat)):i70 (l.map b80)=true:=by
 induction l with
 |nil=>rfl
 |cons x r ih =>
  show(i70 (x.map a60)&&i70 (r.map b80))=true;rw[c70,ih];rfl
theorem x21(h0:0 < b):(A20 t b).1 * b=(A20 t b).2 * t:=by
 obtain⟨e1,e2⟩:=X10 (t:=t) h0;generalize (A20 t b).1=x at *
 generalize (A20 t b).2=y at *
 generalize ((gcd t b:Nat):Int)=k at *
 rw[e1,e2]
 grind
def t70(k:Nat):List (List Nat):=(TS.sN k).map (TS.i60 k 0)
theorem t80(h:k<=8):c30 k=(Ú (2 ^ k)).map (TS.i60 k 0):=by
 have:∀ k,k < 9->c30 k=(Ú (2 ^ k)).map (TS.i60 k 0):=by decide +kernel
 exact this k ∅
theorem k80(h:k<=8):(t70 k).Perm (c30 k):=by
 have:∀ k,k < 9->(TS.sN k).isPerm (Ú (2 ^ k))=true:=by decide +kernel
 rw[t80 h];exact(List.isPerm_iff.mp (this k ∅)).map _
theorem p12(h:k<=8):(c30 k).map b80=g20 k:=by
 rw[t80 h];unfold g20;rw[Á7];rfl
theorem X40(h:k<=8):bfD .sorted [.lst ((c30 k).map b80)]=some (.fr ((t70 k).map b80)):=by
 have h1:∀ k,k < 9->l80 (g20 k)=false:=by decide +kernel
 have h2:∀ k,k < 9->((Ú 9).find? λj=>E00 (g20 k) (g20 j))=some k:=by decide +kernel
 rw[p12 h];show(if (g20 k).length < 64/\l80 (g20 k)=true then some (S.fr (A00 (g20 k))) else(f92 (g20 k)).map S.fr)=_;rw[if_neg (λq=>by rw[h1 k ∅] at q;cases q.2)]
 have e:f92 (g20 k)=some (p11 k):=by
  show(((Ú 9).find? λj=>E00 (g20 k) (g20 j)).map p11)=_;rw[h2 k ∅];rfl
 rw[e];show some (S.fr (p11 k))=some (S.fr ((t70 k).map b80));rw[t70,Á7];rfl
theorem H81{i:Nat}(hi:T[i]?=some (.code 1 3 o60))(k:Nat){m:Int}{ts:List D}(h8:ts.length<=8)(z:Z):c00 T (k + 3) i [.d (.tup [.int m,.tup ts])] z=some (.ok (.fr ((t70 ts.length).map b80)) z):=by
 refine W.ok (n10 (ps:=1) (ns:=3) (b:=o60) hi rfl (-0) ?_)
 refine(a00 (C40 (n:=ts.length) ∅) ?_ :)
 refine B60 (λxs ρ z1=>z1=z/\∃ (j r:Nat) (o2:Option S),j + r=ts.length/\xs=(Ã3 j r).map a60/\ρ=[some (.d (.tup [.int m,.tup ts])),some (.fr ((c30 j).map b80)),o2]) _ ⟨rfl,0,ts.length,none,zero_add _,rfl,rfl⟩ ?_ ?_
 ·rintro x r ρ z1 ⟨rfl,j,r',o2,hj,e,rfl⟩;cases r' with
  |zero=>cases e
  |succ r' =>
   rw[Ä4] at e;cases e;have hp:=K40 (j:=j) ∅
   refine ip (by rw[Ç,l50];simp only[most];omega) (c21 (C12 j) (λy hy=>?_) ?_)
   ·obtain⟨l,hl,rfl⟩:=Î.mp hy;have:=t60 hl;refine(a00 (H71 (a:=l.map a60) (b:=[a60 j]) (by rw[Ç];show _ + 1<=_;omega)) ?_ :)
    exact⟨rfl,rfl⟩
   ·rw[d11];refine(a00 (add_l (a:=(c30 j).map b80) (b:=((c30 j).map (·++[j])).map b80) (by rw[Ç,Ç,Ç,l50];omega)) ?_ :)
    refine⟨rfl,j + 1,r',some (.d (a60 j)),by omega,rfl,?_⟩
    exact congrArg (λl=>[some (S.d (.tup [.int m,.tup ts])),some (.fr l),some (.d (a60 j))]) Á5.symm
 ·rintro ρ z1 ⟨rfl,j,r',o2,hj,e,rfl⟩;cases r' with
  |zero =>
   have hj:j=ts.length:=hj;subst hj;refine(a00 (X40 h8) ?_ :);exact sd rfl
  |succ r'=>rw[Ä4] at e;cases e
theorem X50(k:Nat){m:Int}{ts:List D}(h8:ts.length<=8)(z:Z):c00 T (k + 3) E90 [.d (.tup [.int m,.tup ts])] z=some (.ok (.fr ((t70 ts.length).map b80)) z):=H81 rfl k h8 z
def x70:D->List Nat
 |.tup l=>l.map λx=>match x with | .int i=>i.toNat | _=>0
 |_=>[]
theorem j10(l:List Nat):x70 (b80 l)=l:=by
 show(l.map a60).map _=l;rw[Á7];exact Ô3 l
theorem X41(h:k<=8)(hl:lot∈t70 k):∀ n∈lot,n < k:=j90 ((k80 h).mem_iff.mp hl)
theorem d21(h:k<=8):(t70 k).length<=256:=by rw[(k80 h).length_eq,l50];exact K40 h
section
variable {m:Int}{ps cs:List (Int × Int)}{pl:List Nat}
abbrev i40(m:Int)(ps:List (Int × Int))(pl:List Nat):List (List Nat):=(t70 ps.length).filter (g70 ps m.toNat pl)
theorem R10(k:Nat)(g:c40 m ps)(hp:w00 m pl)(z:Z):c00 T (k + 9) B80 [.d (D30 m ps),.d (.tup (pl.map a60))] z=some (.ok (.fr ((i40 m ps pl).map b80)) z):=by
 have h8:=g.len;have h6:=hp.len g.m6;refine W.ok (n10 (ps:=2) (ns:=2) (b:=q70) rfl rfl (-0) (Wo (x20 k z g.web) (Wo (C30 (k + 2) (t:=.tup (ps.map pr)) z hp.pls (decide_eq_true (by rw[Ç];omega))) (Wo (X50 (k + 5) (m:=m) (ts:=ps.map pr) (by rw[Ç];exact h8) z) ?_))))
 rw[Ç];refine ip (by rw[Ç];exact r30 (Ò (d21 h8) (-0))) (W51 (λx=>g70 ps m.toNat pl (x70 x)) id (λx hx=>?_) ?_)
 ·obtain⟨l,hl,rfl⟩:=Î.mp hx;refine Wo (t50 (k + 4) g hp (Row.t l) (X41 h8 hl) z) ⟨?_,rfl,λ_=>⟨rfl,rfl⟩⟩;rw[j10]
 ·refine sd ?_;rw[Ô3,É7];have:(t70 ps.length).filter ((λx=>g70 ps m.toNat pl (x70 x)) ∘ b80)=i40 m ps pl:=Ò8 λl _=>by show g70 ps m.toNat pl (x70 (b80 l))=_;rw[j10]
  rw[this]
end
def H91(j:Nat)(lot:List Nat):List Nat:=(Ú j).filter λn=>!lot.contains n
def tl:Sm->Sm
 |.seq _ r=>r|s=>s
structure Bs(n:Nat)(c:Int × Int):Prop where
 t:c.1.natAbs<=2 ^ n
 b0:0 < c.2
 b:c.2.natAbs<=2 ^ n
theorem x31{n m:Nat}{i j:Int}(hi:i.natAbs<=2 ^ n)(hj:j.natAbs<=2 ^ m):(i * j).natAbs<=2 ^ (n + m):=by
 rw[natAbs_mul,Nat.pow_add];exact Nat.mul_le_mul hi hj
theorem x41(h0:0 < b):(A20 t b).1.natAbs<=t.natAbs/\(A20 t b).2.natAbs<=b.natAbs:=by
 obtain⟨e1,e2⟩:=X10 (t:=t) h0;have g0:=w31 (t:=t) h0;generalize A20 t b=v at *
 generalize hg:gcd t b=g at *
 have g1:1<=g:=by omega
 constructor
 ·rw[e1,natAbs_mul,Int.natAbs_natCast];exact Ý7 _ g1
 ·rw[e2,natAbs_mul,Int.natAbs_natCast];exact Ý7 _ g1
structure Rt(v:Int × Int)(t b:Int):Prop where
 b0:0 < v.2
 one:gcd v.1 v.2=1
 eq:v.1 * b=t * v.2
theorem Rt.low{t b:Int}(hb:0 < b):Rt (A20 t b) t b:=⟨w41 hb,X11 hb,by rw[x21 hb,Int.mul_comm]⟩
theorem Rt.conv{v:Int × Int}{t b t' b':Int}(h:Rt v t b)(hb:0 < b)(e:t * b'=t' * b):Rt v t' b':=by
 refine⟨h.b0,h.one,Î8 (a:=b) ∅ ?_⟩
 have:=h.eq
 calc v.1 * b' * b=(v.1 * b) * b':=by grind
  _=(t * b') * v.2:=by rw[this];grind
  _=t' * v.2 * b:=by rw[e];grind
theorem Rt.eqv{v w:Int × Int}{t b:Int}(hv:Rt v t b)(hw:Rt w t b)(hb:0 < b):v=w:=by
 have e:v.1 * w.2=w.1 * v.2:=by
  have h1:=hv.eq;have h2:=hw.eq;refine Î8 (a:=b) ∅ ?_
  calc v.1 * w.2 * b=(v.1 * b) * w.2:=by grind
   _=(t * w.2) * v.2:=by rw[h1];grind
   _=w.1 * v.2 * b:=by rw[← h2];grind
 obtain⟨a,b'⟩:=i71 hv.b0 hw.b0 hv.one hw.one e;exact Prod.ext a b'
theorem Rt.add{v w:Int × Int}{t b t' b':Int}(hv:Rt v t b)(hw:Rt w t' b'):Rt (A20 (v.1 * w.2 + w.1 * v.2) (v.2 * w.2)) (t * b' + t' * b) (b * b'):=by
 have y:=mul_pos hv.b0 hw.b0;refine(Rt.low y).conv y ?_;have h1:=hv.eq;have h2:=hw.eq
 calc (v.1 * w.2 + w.1 * v.2) * (b * b')=(v.1 * b) * (w.2 * b') + (w.1 * b') * (v.2 * b):=by grind
  _=(t * b' + t' * b) * (v.2 * w.2):=by rw[h1,h2];grind
theorem Rt.mul{v w:Int × Int}{t b t' b':Int}(hv:Rt v t b)(hw:Rt w t' b'):Rt (A20 (v.1 * w.1) (v.2 * w.2)) (t * t') (b * b'):=by
 have y:=mul_pos hv.b0 hw.b0;refine(Rt.low y).conv y ?_;have h1:=hv.eq;have h2:=hw.eq
 calc v.1 * w.1 * (b * b')=(v.1 * b) * (w.1 * b'):=by grind
  _=t * t' * (v.2 * w.2):=by rw[h1,h2];grind
theorem IsC.rt{c:Int × Int}(h:IsC c):Rt c c.1 c.2:=⟨by have:=h.1;omega,h.2.2.2.2,rfl⟩
theorem Bs.up{n m:Nat}{c:Int × Int}(h:Bs n c)(hm:n<=m):Bs m c :=
 have e:=È2 (n:=2) (-0) hm
 ⟨Ò h.t e,h.b0,Ò h.b e⟩
theorem Bs.low{n:Nat}{t b:Int}(h0:0 < b)(ht:t.natAbs<=2 ^ n)(hb:b.natAbs<=2 ^ n):Bs n (A20 t b) :=
 ⟨Ò (x41 h0).1 ht,w41 h0,Ò (x41 h0).2 hb⟩
theorem Bs.mul{n:Nat}{c d:Int × Int}(hc:Bs n c)(hd:Bs n d):Bs (n + n) (A20 (c.1 * d.1) (c.2 * d.2)):=.low (mul_pos hc.b0 hd.b0) (x31 hc.t hd.t) (x31 hc.b hd.b)
section
variable {m:Int}{ps cs:List (Int × Int)}{pl:List Nat}
theorem X51{j n:Nat}{lot:List Nat}(h:n∈H91 j lot):n < j:=Ý.mp (å.mp h).1
theorem K70(k:Nat)(h8:ps.length<=8)(lot:List Nat)(z:Z):c00 T (k + 3) w70 [.d (D30 m ps),.d (b80 lot)] z=some (.ok (.d (b80 (H91 ps.length lot))) z):=by
 refine W.ok (n10 (ps:=2) (ns:=2) (b:=n50) rfl rfl (-0) ?_)
 refine(a00 (o:=itD .rng1 [.int ((ps.map pr).length:Nat)]) (C40 (n:=(ps.map pr).length) (by rw[Ç];omega)) ?_ :)
 rw[Ç];refine ip (by rw[Ç,List.length_range'];exact r30 ∅) (W51 (λx=>match x with | .int i=>!lot.contains i.toNat | _=>false) id (λx hx=>?_) ?_)
 ·obtain⟨n,hn,rfl⟩:=Î.mp hx;refine(a00 (o:=(j41 (a60 n) (lot.map a60)).map (!·)) (a:=!lot.contains n) (by rw[K60,Ó6];rfl) ?_ :)
  exact⟨rfl,rfl,λ_=>⟨rfl,rfl⟩⟩
 ·rw[Ô3,É7];refine sd ?_;rw[Ç,← É3];rfl
end
theorem t90:∀ {j:Nat}{lot:List Nat},lot∈c30 j->lot.Pairwise (· < ·)
 |0,lot,h=>by
  have:lot=[]:=by simpa [c30] using h
  subst this;exact .nil
 |j + 1,lot,h=>by
  rcases À5.mp (show lot∈c30 j++(c30 j).map (·++[j]) from h) with h | h
  ·exact t90 h
  ·obtain⟨x,hx,rfl⟩:=Î.mp h;rw[List.pairwise_append];refine⟨t90 hx,Ñ2 _ _,λa ha b hb=>?_⟩;rw[À8] at hb;subst hb;exact j90 hx a ha
theorem d31:∀ ns:List Int,m20 (ns.map D.int)=some ns
 |[]=>rfl
 |n::r=>by
  show(m20 (r.map D.int)).map (n::·)=_;rw[d31 r];rfl
def F80(ks:List Int)(m:Int):List Int:=if m∈ks then ks else ks++[m]
theorem I01(ks:List Int)(m:Int):ks.length<=(F80 ks m).length/\(F80 ks m).length<=ks.length + 1:=by
 unfold F80;split
 ·exact⟨Ì _,le_succ _⟩
 ·rw[õ];exact⟨le_succ _,Ì _⟩
theorem d41:∀ (ns ks:List Int),ks.length<=(ns.foldl F80 ks).length/\(ns.foldl F80 ks).length<=ks.length + ns.length
 |[],ks=>⟨Ì _,Ì _⟩
 |m::r,ks=>by
  have h:=d41 r (F80 ks m);have k:=I01 ks m;rw[É6,Ô];omega
theorem d51{a:Int}:∀ ns:List Int,(ns.foldl F80 [a]).length=1↔∀ x∈ns,x=a
 |[]=>⟨λ_ _ h=>(nomatch h),λ_=>rfl⟩
 |m::r=>by
  rw[É6];by_cases h:m=a
  ·have e:F80 [a] m=[a]:=by unfold F80;rw[if_pos (by rw[h];exact É)]
   rw[e,d51 r];exact⟨λk x hx=>(è.mp hx).elim (λz=>z.trans h) (k x),λk x hx=>k x (Ê _ hx)⟩
  ·have e:F80 [a] m=[a,m]:=by unfold F80;rw[if_neg (λq=>h (í.mp q))];rfl
   rw[e];have:=(d41 r [a,m]).1;exact⟨λq=>by rw[Ô,Ý8] at this;omega,λq=>absurd (q m É) h⟩
def S30(ns:List Int):Nat:=(ns.foldl F80 []).length
theorem d61(ns:List Int):S30 ns=(ns.foldl F80 []).length:=rfl
theorem I11{a:Int}{r:List Int}:S30 (a::r)=1↔∀ x∈r,x=a:=by
 rw[d61];exact d51 r
theorem p22{mk:List Int}{a:Int}:(∀ x∈mk,x=a)↔∀ p < mk.length,mk.getD p 0=a:=by
 constructor
 ·intro h p hp;rw[Ö,Ù hp];exact h _ (À2 hp)
 ·intro h x hx;obtain⟨p,hp,rfl⟩:=Å5.mp hx;have:=h p hp;rw[Ö,Ù hp] at this;exact this
theorem x51{mk:List Int}(h:0 < mk.length):S30 mk=1↔w71 mk (Ú mk.length)=true:=by
 cases mk with
 |nil=>cases h
 |cons a r =>
  rw[I11];unfold w71;rw[Â0];have e0:(Ú (a::r).length).getD 0 0=0:=by rw[Ô,List.range_succ_eq_map];rfl
  rw[e0];have k:=p22 (mk:=a::r) (a:=a);constructor
  ·intro q p hp;rw[beq_iff_eq];exact k.mp (λx hx=>(è.mp hx).elim id (q x)) p (Ý.mp hp)
  ·intro q x hx;exact k.mpr (λp hp=>eq_of_beq (q p (Ý.mpr hp))) x (Ê _ hx)
section
variable {m:Int}{ps cs:List (Int × Int)}{pl:List Nat}
theorem d71(g:c40 m ps)(l:List Nat):S30 (d70 ps m.toNat l)=0 + 1↔g70 ps m.toNat (Ú m.toNat) l=true:=by
 have h:=x51 (mk:=d70 ps m.toNat l) (by rw[t30];have:=g.m1;omega)
 rw[t30] at h;exact h
end
theorem y60:∀ {K:Nat}{l:List Nat},l.Pairwise (· < ·)->(∀ n∈l,n < K)->l∈c30 K
 |0,l,_,h=>by
  cases l with
  |nil=>exact í.mpr rfl|cons a r=>exact absurd (h a É) (Ô2 _)
 |K + 1,l,hp,h=>by
  show l∈c30 K++(c30 K).map (·++[K]);by_cases hk:K∈l
  ·obtain⟨s,t,rfl⟩:=List.append_of_mem hk;rw[List.pairwise_append] at hp;obtain⟨p1,p2,p3⟩:=hp;have ht:t=[]:=by
    cases t with
    |nil=>rfl
    |cons b r =>
     have h1:=List.rel_of_pairwise_cons p2 É;have h2:=h b (ã _ (Ê _ É));omega
   subst ht;refine ã _ (Î.mpr ⟨s,y60 p1 λn hn=>p3 n hn K É,rfl⟩)
  ·refine Ã7 _ (y60 hp λn hn=>?_);have:=h n hn;have:n≠K:=λe=>hk (e ▸ hn);omega
theorem d81{K:Nat}{l:List Nat}(h:l∈c30 K)(i:Nat):l.eraseIdx i∈c30 K :=
 y60 ((t90 h).sublist (Þ0 ..)) λn hn=>j90 h n ((Þ0 ..).mem hn)
def X61(l:List Nat):List (List Nat):=(Ú l.length).map l.eraseIdx
def g90(ls:List (List Nat)):List (List Nat):=ls.filter λl=>!(X61 l).any λx=>ls.contains x
theorem n90{ls:List (List Nat)}{x:List Nat}(h:x∈g90 ls):x∈ls:=(å.mp h).1
theorem d91{ls:List (List Nat)}{x:List Nat}(h:x∈g90 ls){i:Nat}(hi:i < x.length):x.eraseIdx i ∉ ls:=λq=>by
 have h2:=(å.mp h).2;rw[î,List.any_eq_false] at h2;exact h2 (x.eraseIdx i) (Î.mpr ⟨i,Ý.mpr hi,rfl⟩) (Ò9.mpr q)
section
variable {m:Int}{ps cs:List (Int × Int)}{pl:List Nat}
theorem f70(g:c40 m ps){l:List Nat}:l∈i40 m ps pl↔l∈c30 ps.length/\g70 ps m.toNat pl l=true:=by
 rw[mem_filter,(k80 g.len).mem_iff]
end
theorem I21{ks:List Int}{m x:Int}:x∈F80 ks m↔x∈ks∨x=m:=by
 unfold F80;split
 ·rename_i h;exact⟨.inl,λq=>q.elim id λe=>e ▸ h⟩
 ·rw[mem_append,À8]
theorem X71{ks:List Int}{m:Int}(h:ks.Nodup):(F80 ks m).Nodup:=by
 unfold F80;split
 ·exact h
 ·rename_i q;rw[List.nodup_append];exact⟨h,by simp,λa ha b hb e=>by rw[À8] at hb;subst hb;subst e;exact q ha⟩
theorem k90{x:Int}:∀ (ns ks:List Int),x∈ns.foldl F80 ks↔x∈ks∨x∈ns
 |[],ks=>by simp
 |m::r,ks=>by
  rw[É6,k90 r,I21,È8,or_assoc]
theorem y70:∀ (ns:List Int) {ks:List Int},ks.Nodup->(ns.foldl F80 ks).Nodup
 |[],_,h=>h|_::r,_,h=>y70 r (X71 h)
theorem R20(m:Nat):S30 ((Ú m).map λ(i:Nat)=>(i:Int))=m:=by
 rw[d61];have h1:=y70 ((Ú m).map λ(i:Nat)=>(i:Int)) (ks:=[]) nodup_nil;have h2:((Ú m).map λ(i:Nat)=>(i:Int)).Nodup:=Õ5.map _ (λa b h e=>h ∅) Ù4
 have p:=(Í9 h1 h2).mpr λx=>by rw[k90];simp
 rw[p.length_eq,Ç,ø]
section
variable {ps:List (Int × Int)}
theorem getD_in{mk:List Int}{i:Nat}(h:i < mk.length):mk.getD i 0∈mk:=by
 rw[Ö,Ù h];exact À2 h
theorem step_same{mk:List Int}{n:Nat}(h:mk.getD (tA ps n) 0=mk.getD (tB ps n) 0):f40 ps mk n=mk:=by
 unfold f40;rw[h]
 conv=>rhs;rw[← Ô3 mk]
 refine Å8 λx _=>?_;show(if x=_ then _ else x)=x;split
 ·rename_i e;exact e.symm
 ·rfl
theorem e01{mk:List Int}{n:Nat}(ha:tA ps n < mk.length)(hb:tB ps n < mk.length)(h:mk.getD (tA ps n) 0≠mk.getD (tB ps n) 0):S30 (f40 ps mk n) + 1=S30 mk:=by
 have ia:=getD_in ha;have ib:=getD_in hb;rw[d61,d61];unfold f40;generalize mk.getD (tA ps n) 0=a at *
 generalize mk.getD (tB ps n) 0=b at *
 have d1:=y70 mk (ks:=[]) nodup_nil;have d2:=y70 (mk.map λx=>if x=b then a else x) (ks:=[]) nodup_nil;have p:=(Í9 d2 (List.Nodup.erase b d1)).mpr λx=>by
  rw[k90,d1.mem_erase_iff,k90,Î];constructor
  ·rintro (q | ⟨y,hy,e⟩)
   ·cases q
   ·split at e
    ·subst e;exact⟨h,.inr ia⟩
    ·rename_i hyb;subst e;exact⟨hyb,.inr hy⟩
  ·rintro ⟨q,q2 | q2⟩
   ·cases q2
   ·exact .inr ⟨x,q2,by rw[if_neg q]⟩
 rw[p.length_eq,List.length_erase_of_mem ((k90 _ _).mpr (.inr ib))];have:0 < (mk.foldl F80 []).length:=Ý3 ((k90 _ _).mpr (.inr ib));omega
theorem e11{m:Nat}(hr:∀ n < ps.length,tA ps n < m/\tB ps n < m):∀ (l:List Nat) (mk:List Int),mk.length=m->(∀ n∈l,n < ps.length)->(∀ p n q,l=p++n::q->(p.foldl (f40 ps) mk).getD (tA ps n) 0≠(p.foldl (f40 ps) mk).getD (tB ps n) 0)->S30 (l.foldl (f40 ps) mk) + l.length=S30 mk
 |[],_,_,_,_=>rfl
 |n::r,mk,hm,hl,h=>by
  have hn:=hr n (hl n É);have s:=e01 (ps:=ps) (mk:=mk) (n:=n) ∅ ∅ (h [] n r rfl)
  have ih:=e11 hr r (f40 ps mk n) (by rw[o90];exact hm) (λk hk=>hl k (Ê _ hk)) λp k q e=>h (n::p) k q (by rw[e];rfl)
  rw[É6,Ô];omega
end
section
variable {m:Int}{ps:List (Int × Int)}
theorem e21(g:c40 m ps){l:List Nat}(h:l∈g90 (i40 m ps (Ú m.toNat))):(l.length:Int)=m - 1/\S30 (d70 ps m.toNat l)=1:=by
 have m1:=g.m1;obtain⟨l1,l2⟩:=(f70 g).mp (n90 h);have n1:S30 (d70 ps m.toNat l)=1:=(d71 g l).mpr l2;have f:=e11 (ps:=ps) g.rng l ((Ú m.toNat).map λ(i:Nat)=>(i:Int)) (by rw[Ç,ø]) (j90 l1) λp n q e same=>by
  have hi:p.length < l.length:=by rw[e,õ,Ô];omega
  refine d91 h hi ((f70 g).mpr ⟨d81 l1 _,?_⟩);have er:l.eraseIdx p.length=p++q:=by rw[e,List.eraseIdx_append_of_length_le (Ì _),Nat.sub_self];rfl
  rw[er];unfold g70 at l2 ⊢;have em:d70 ps m.toNat (p++q)=d70 ps m.toNat l:=by
   unfold d70;rw[e,List.foldl_append,List.foldl_append,É6,step_same same]
  rw[em];exact l2
 rw[R20] at f;have:S30 (d70 ps m.toNat l) + l.length=m.toNat:=f;exact⟨by omega,n1⟩
end
abbrev pf(ps:List (Int × Int))(i:Nat):Int × Int:=ps.getD i (0,0)
section
variable {m:Int}{ps cs:List (Int × Int)}{pl:List Nat}
theorem p32{i:Nat}(h:i < ps.length):pf ps i∈ps:=by
 rw[pf,Ö,Ù h];exact À2 h
theorem c40.ab(g:c40 m ps){n:Nat}(hn:n < ps.length):tA ps n < tB ps n/\tB ps n < m.toNat/\pf ps n=((tA ps n:Int),(tB ps n:Int)):=by
 have:=g.tie _ (p32 hn);refine⟨by show(pf ps n).1.toNat < (pf ps n).2.toNat;omega,by show(pf ps n).2.toNat < _;omega,Prod.ext ?_ ?_⟩
 ·show(pf ps n).1=((pf ps n).1.toNat:Int);omega
 ·show(pf ps n).2=((pf ps n).2.toNat:Int);omega
theorem x61(g:c40 m ps)(hp:w00 m pl){lot:List Nat}(hl:∀ n∈lot,n < ps.length):g70 ps m.toNat pl lot=true↔∀ f:Nat->Int,(∀ n∈lot,f (tA ps n)=f (tB ps n))->∀ p∈pl,∀ q∈pl,f p=f q:=by
 rw[t40 g.rng (λp q=>by have:=hp.lt p q;omega) hl]
 refine⟨λh f hf p h1 q h2=>(h f hf p h1).trans (h f hf q h2).symm,λh f hf p h1=>h f hf p h1 _ ?_⟩;cases pl with
 |nil=>cases h1
 |cons a r=>exact É
end
abbrev Wy:=Nat × List Nat
section
variable (ps:List (Int × Int)) (tree:List Nat)
def X60(h n:Nat):Bool:=decide (h=tA ps n) || decide (h=tB ps n)
def e31(h n:Nat):Nat:=tA ps n + tB ps n - h
def D70(r:Wy)(n:Nat):Bool:=X60 ps r.1 n&&!decide (n∈r.2)
def f10(r:Wy)(n:Nat):Wy:=(e31 ps r.1 n,r.2++[n])
def p42(r:Wy):List Wy:=(tree.filter (D70 ps r)).map (f10 ps r)
def u00(rows:List Wy):List Wy:=rows.flatMap (p42 ps tree)
def lev(s:Nat):Nat->List Wy
 |0=>[(s,[])]|L + 1=>u00 ps tree (lev s L)
end
section
variable {ps:List (Int × Int)}{tree:List Nat}{s:Nat}
theorem X81{L:Nat}{r':Wy}(h:r'∈lev ps tree s (L + 1)):∃ r n,r∈lev ps tree s L/\n∈tree/\(r.1=tA ps n∨r.1=tB ps n)/\n ∉ r.2/\r'=f10 ps r n:=by
 obtain⟨r,hr,h1⟩:=List.mem_flatMap.mp (show r'∈u00 ps tree (lev ps tree s L) from h);obtain⟨n,hn,rfl⟩:=Î.mp (show r'∈(tree.filter (D70 ps r)).map (f10 ps r) from h1);obtain⟨h2,h3⟩:=å.mp hn;unfold D70 X60 at h3;simp only[Â,À6,decide_eq_true_eq,î,decide_eq_false_iff_not] at h3;exact⟨r,n,hr,h2,h3.1,h3.2,rfl⟩
theorem p52{L n:Nat}{r:Wy}(hr:r∈lev ps tree s L)(hn:n∈tree)(ht:r.1=tA ps n∨r.1=tB ps n)(hw:n ∉ r.2):f10 ps r n∈lev ps tree s (L + 1):=by
 refine List.mem_flatMap.mpr ⟨r,hr,Î.mpr ⟨n,å.mpr ⟨hn,?_⟩,rfl⟩⟩;unfold D70 X60;simp only[Â,À6,decide_eq_true_eq,î,decide_eq_false_iff_not];exact⟨ht,hw⟩
theorem x71{h n:Nat}(ht:h=tA ps n∨h=tB ps n):(h=tA ps n/\e31 ps h n=tB ps n)∨(h=tB ps n/\e31 ps h n=tA ps n):=by
 unfold e31;rcases ht with e | e
 ·exact .inl ⟨e,by omega⟩
 ·exact .inr ⟨e,by omega⟩
theorem X91{h n:Nat}(ht:h=tA ps n∨h=tB ps n)(f:Nat->Int):f h=f (e31 ps h n)↔f (tA ps n)=f (tB ps n):=by
 rcases x71 ht with ⟨e1,e2⟩ | ⟨e1,e2⟩
 ·rw[e2,e1]
 ·rw[e2,e1];exact eq_comm
theorem R30:∀ {L:Nat}{r:Wy},r∈lev ps tree s L->r.2.length=L/\r.2.Nodup/\(∀ n∈r.2,n∈tree)/\∀ f:Nat->Int,(∀ n∈r.2,f (tA ps n)=f (tB ps n))->f s=f r.1
 |0,r,h=>by
  obtain rfl:=í.mp (show r∈[(s,[])] from h);exact⟨rfl,nodup_nil,(λ_ h=>nomatch h),λf _=>rfl⟩
 |L + 1,r',h=>by
  obtain⟨r,n,hr,hn,ht,hw,rfl⟩:=X81 h;obtain⟨h1,h2,h3,h4⟩:=R30 hr;refine⟨?_,?_,λk hk=>?_,λf hf=>?_⟩
  ·show(r.2++[n]).length=_;rw[õ,h1];rfl
  ·show(r.2++[n]).Nodup;rw[List.nodup_append];exact⟨h2,by simp,λa ha b hb e=>by rw[À8] at hb;subst hb;subst e;exact hw ha⟩
  ·rcases À5.mp (show k∈r.2++[n] from hk) with hk | hk
   ·exact h3 k hk
   ·rw[À8] at hk;subst hk;exact hn
  ·have h5:=h4 f λk hk=>hf k (Ã7 _ hk);exact h5.trans ((X91 ht f).mpr (hf n (ã _ (í.mpr rfl))))
theorem M21{n:Nat}{f:Nat->Int}(h1:∀ k∈tree,k≠n->f (tA ps k)=f (tB ps k))(h2:f (tA ps n)≠f (tB ps n)):∀ {L:Nat}{r:Wy},r∈lev ps tree s L->(f s=f r.1↔n ∉ r.2)
 |0,r,h=>by
  obtain rfl:=í.mp (show r∈[(s,[])] from h);exact⟨λ_=>Æ4,λ_=>rfl⟩
 |L + 1,r',h=>by
  obtain⟨r,k,hr,hk,ht,hw,rfl⟩:=X81 h;have ih:=M21 h1 h2 hr;show f s=f (e31 ps r.1 k)↔n ∉ r.2++[k];rw[mem_append,À8];by_cases e:k=n
  ·subst e;have e1:=ih.mpr hw;exact⟨λq=>absurd ((X91 ht f).mp (e1.symm.trans q)) h2,λq=>absurd (Ô6 rfl) q⟩
  ·rw[← (X91 ht f).mpr (h1 k hk e),ih];exact⟨λq1 q2=>q2.elim q1 λq=>e q.symm,λq1 q2=>q1 (.inl q2)⟩
theorem M31:∀ {L:Nat}{r:Wy},r∈lev ps tree s L->∀ k∈r.2,(∃ J w,(tA ps k,w)∈lev ps tree s J)/\∃ J w,(tB ps k,w)∈lev ps tree s J
 |0,r,h,k,hk=>by
  obtain rfl:=í.mp (show r∈[(s,[])] from h);exact nomatch hk
 |L + 1,r',h,k,hk=>by
  obtain⟨r,n,hr,hn,ht,hw,rfl⟩:=X81 h;rcases À5.mp (show k∈r.2++[n] from hk) with hk | hk
  ·exact M31 hr k hk
  ·rw[À8] at hk;subst hk;have a1:∃ J w,(r.1,w)∈lev ps tree s J:=⟨L,r.2,hr⟩;have a2:∃ J w,(e31 ps r.1 k,w)∈lev ps tree s J:=⟨L + 1,r.2++[k],h⟩;rcases x71 ht with ⟨e1,e2⟩ | ⟨e1,e2⟩
   ·rw[e2] at a2;rw[e1] at a1;exact⟨a1,a2⟩
   ·rw[e2] at a2;rw[e1] at a1;exact⟨a2,a1⟩
theorem Y01{m:Int}(g:c40 m ps)(hl:∀ n∈tree,n < ps.length)(hg:g70 ps m.toNat (Ú m.toNat) tree=true){e:Nat}(hs:s < m.toNat)(he:e < m.toNat):∃ L w,L<=tree.length/\(e,w)∈lev ps tree s L:=by
 classical
 let f:Nat->Int:=λx=>if ∃ J w,(x,w)∈lev ps tree s J then 1 else 0
 have hf:∀ x,f x=1↔∃ J w,(x,w)∈lev ps tree s J:=λx=>by
  show(if _ then(1:Int) else 0)=1↔_;split
  ·rename_i h;exact⟨λ_=>h,λ_=>rfl⟩
  ·rename_i h;exact⟨λq=>(by cases q),λq=>absurd q h⟩
 have hf0:∀ x,f x=1∨f x=0:=λx=>by
  show(if _ then(1:Int) else 0)=1∨(if _ then(1:Int) else 0)=0;split
  ·exact .inl rfl
  ·exact .inr rfl
 have cl:∀ (h n:Nat),n∈tree->(h=tA ps n∨h=tB ps n)->f h=1->f (e31 ps h n)=1:=λh n hn ht h1=>by
  obtain⟨J,w,hr⟩:=(hf h).mp h1;refine(hf _).mpr ?_;by_cases hw:n∈w
  ·obtain⟨b1,b2⟩:=M31 hr n hw;rcases x71 ht with ⟨_,e2⟩ | ⟨_,e2⟩
   ·rw[e2];exact b2
   ·rw[e2];exact b1
  ·exact⟨J + 1,w++[n],p52 hr hn ht hw⟩
 have hr:∀ p∈Ú m.toNat,p < m.toNat:=λp hp=>Ý.mp hp;have key:=(t40 (ps:=ps) g.rng hr hl).mp hg f λn hn=>by
  have c1:=cl (tA ps n) n hn (.inl rfl);have c2:=cl (tB ps n) n hn (.inr rfl);have e1:e31 ps (tA ps n) n=tB ps n:=by unfold e31;omega
  have e2:e31 ps (tB ps n) n=tA ps n:=by unfold e31;omega
  rw[e1] at c1;rw[e2] at c2;rcases hf0 (tA ps n) with h1 | h1
  ·rw[h1,c1 h1]
  ·rcases hf0 (tB ps n) with h2 | h2
   ·rw[h2,c2 h2]
   ·rw[h1,h2]
 have k1:=key s (Ý.mpr hs);have k2:=key e (Ý.mpr he);have f1:f s=1:=(hf s).mpr ⟨0,[],í.mpr rfl⟩;obtain⟨L,w,hw⟩:=(hf e).mp (k2.trans (k1.symm.trans f1));obtain⟨l1,l2,l3,_⟩:=R30 hw;have:=List.Nodup.length_le_of_subset l2 l3;exact⟨L,w,by omega,hw⟩
theorem e41{α β:Type}{f:α->List β}{c:Nat}:∀ (l:List α),(∀ x∈l,(f x).length<=c)->(l.flatMap f).length<=l.length * c
 |[],_=>by simp
 |x::r,h=>by
  rw[List.flatMap_cons,õ,Ô,Nat.add_one_mul];have h1:=e41 r λy hy=>h y (Ê _ hy);have h2:=h x É;omega
theorem e51{rows:List Wy}:(u00 ps tree rows).length<=rows.length * tree.length :=
 e41 rows λr _=>by unfold p42;rw[Ç];exact À9 _ _
theorem X70:∀ L:Nat,(lev ps tree s L).length<=tree.length ^ L
 |0=>Ì _
 |L + 1=>by
  rw[pow_succ];exact Ò e51 (Nat.mul_le_mul_right _ (X70 L))
end
section
variable {m:Int}{ps:List (Int × Int)}{tree w:List Nat}{L n:Nat}
theorem c40.two(g:c40 m ps)(hn:n < ps.length):w00 m [tA ps n,tB ps n]:=by
 obtain⟨h1,h2,_⟩:=g.ab hn;refine⟨(by simp),Æ0.mpr ⟨λx hx=>by rw[À8] at hx;rw[hx];exact h1,Ñ2 _ _⟩,λp hp=>?_⟩
 rcases è.mp hp with rfl | hp
 ·omega
 ·rw[À8] at hp;rw[hp];omega
theorem I31(g:c40 m ps)(ht:tree∈g90 (i40 m ps (Ú m.toNat)))(hn:n < ps.length)(hnt:n ∉ tree)(hw:(tB ps n,w)∈lev ps tree (tA ps n) L):(∃ x∈w,n < x)↔g70 ps m.toNat [tA ps n,tB ps n] (tree.filter λk=>decide (k < n))=false:=by
 obtain⟨t1,t2⟩:=(f70 g).mp (n90 ht);have tl:=j90 t1;obtain⟨l1,l2,l3,l4⟩:=R30 hw;obtain⟨a1,a2,_⟩:=g.ab hn;have ll:∀ k∈tree.filter (λk=>decide (k < n)),k < ps.length:=λk hk=>tl k (å.mp hk).1;have gi:=x61 g (g.two hn) ll;constructor
 ·rintro ⟨x,hx,hlt⟩;have hxt:=l3 x hx;obtain⟨i,hi,ei⟩:=Å5.mp hxt;have no:=d91 ht hi;have sub:∀ k,k∈tree.eraseIdx i↔k∈tree/\k≠x:=λk=>by
   have nd:tree.Nodup:=(t90 t1).imp λh=>ä h;rw[List.mem_eraseIdx_iff_getElem?,← ei];constructor
   ·rintro ⟨j,hj,e⟩;obtain⟨hj2,rfl⟩:=Û.mp e;exact⟨À2 _,λq=>hj ((getElem_inj nd).mp q)⟩
   ·rintro ⟨q1,q2⟩;obtain⟨j,hj,rfl⟩:=Å5.mp q1;exact⟨j,λq=>q2 (by subst q;rfl),Ù hj⟩
  have hr:∀ p∈Ú m.toNat,p < m.toNat:=λp hp=>Ý.mp hp;have e0:¬ g70 ps m.toNat (Ú m.toNat) (tree.eraseIdx i)=true:=λq=>no ((f70 g).mpr ⟨d81 t1 i,q⟩);rw[t40 g.rng hr (λk hk=>tl k ((sub k).mp hk).1)] at e0;obtain⟨f,e0⟩:=Classical.not_forall.mp e0;obtain⟨f1,e0⟩:=Classical.not_imp.mp e0;have f2:∀ k∈tree,k≠x->f (tA ps k)=f (tB ps k):=λk hk hne=>f1 k ((sub k).mpr ⟨hk,hne⟩);have f3:f (tA ps x)≠f (tB ps x):=λq=>e0 ((t40 g.rng hr tl).mp t2 f λk hk=>by
   by_cases e:k=x
   ·subst e;exact q
   ·exact f2 k hk e)
  have br:=M21 f2 f3 hw;cases hb:g70 ps m.toNat [tA ps n,tB ps n] (tree.filter λk=>decide (k < n)) with
  |false=>rfl
  |true =>
   have:=gi.mp hb f (λk hk=>by
    obtain⟨k1,k2⟩:=å.mp hk;rw[decide_eq_true_eq] at k2;exact f2 k k1 ∅) (tA ps n) É (tB ps n) (Ê _ É)
   exact absurd hx (br.mp this)
 ·intro hb;apply Ù5;intro no;have:g70 ps m.toNat [tA ps n,tB ps n] (tree.filter λk=>decide (k < n))=true:=gi.mpr λf hf p hp q hq=>by
   have e:f (tA ps n)=f (tB ps n):=l4 f λk hk=>hf k (å.mpr ⟨l3 k hk,by
    rw[decide_eq_true_eq];have h1:¬ n < k:=λq=>no ⟨k,hk,q⟩;have h2:k≠n:=λq=>hnt (q ▸ l3 k hk);omega⟩)
   have two:∀ x∈[tA ps n,tB ps n],f x=f (tA ps n):=λx hx=>by
    rcases è.mp hx with rfl | hx
    ·rfl
    ·rw[À8] at hx;rw[hx,e]
   rw[two p hp,two q hq]
  rw[hb] at this;cases this
end
def m4:List Nat:=[15,23,27,29,30,39,43,45,46,51,53,54,57,58,60,71,75,77,78,83,85,86,89,90,92,99,101,102,105,106,108,113,114,116,120,135,139,141,142,147,149,150,153,154,156,163,165,166,169,170,172,177,178,180,184,195,197,198,201,202,204,209,210,212,216,225,226,228,232,240]
def p3:List Nat:=[7,11,13,14,19,21,22,25,26,28,35,37,38,41,42,44,49,50,52,56,67,69,70,73,74,76,81,82,84,88,97,98,100,104,112,131,133,134,137,138,140,145,146,148,152,161,162,164,168,176,193,194,196,200,208,224]
def z31(a b:Nat):List Nat->Nat
 |[]=>0|m::r=>cond (beq (land m a) 0) (z31 a b r) (cond (beq (land m b) 0) (z31 a b r) (z31 a b r + 1))
def Y11(a:Nat):Nat:=(TS.i60 8 0 a).length
theorem N72:(Ú 256).filter (λm=>Y11 m == 4)=m4:=by decide +kernel
theorem N82:(Ú 256).filter (λm=>Y11 m == 3)=p3:=by decide +kernel
theorem N92:((Ú 256).filter λa=>ble (Y11 a) 2).all (λa=>Ô7 (z31 a a m4) 64)=true:=by decide +kernel
theorem O02:p3.all (λa=>p3.all λb=>beq a b || Ô7 (z31 a b m4) 64)=true:=by decide +kernel
theorem M41:∀ m < 256,TS.i60 8 0 m=(Ú 8).filter λn=>m.testBit n:=by decide +kernel
theorem p62{a b:Nat}:∀ l:List Nat,(l.filter λm=>!beq (m &&& a) 0&&!beq (m &&& b) 0).length=z31 a b l
 |[]=>rfl
 |m::r=>by
  have ih:=p62 (a:=a) (b:=b) r;show _=cond (beq (m &&& a) 0) (z31 a b r) (cond (beq (m &&& b) 0) (z31 a b r) (z31 a b r + 1));rw[Æ5];cases beq (m &&& a) 0 <;> cases beq (m &&& b) 0
  ·exact congrArg (· + 1) ih
  ·exact ih
  ·exact ih
  ·exact ih
theorem u10{α:Type}{p:α->Bool}{n:α}{r:List α}:((n::r).filter p).length=(if p n=true then 1 else 0) + (r.filter p).length:=by
 rw[Æ5];split
 ·rw[Ô];omega
 ·omega
def z41(a b v:Nat):Bool:=decide (v=a) || decide (v=b)
theorem Y21:∀ b < 5,∀ a < b,(if z41 a b 0=true then 1 else 0) + (if z41 a b 1=true then 1 else 0) + (if z41 a b 2=true then 1 else 0) + (if z41 a b 3=true then 1 else 0) + (if z41 a b 4=true then 1 else 0)=2:=by decide
section
variable {m:Int}{ps:List (Int × Int)}
abbrev atV(ps:List (Int × Int))(v:Nat)(l:List Nat):List Nat:=l.filter λn=>z41 (tA ps n) (tB ps n) v
theorem x81:∀ l:List Nat,(∀ n∈l,tA ps n < tB ps n/\tB ps n < 5)->(atV ps 0 l).length + (atV ps 1 l).length + (atV ps 2 l).length + (atV ps 3 l).length + (atV ps 4 l).length=2 * l.length
 |[],_=>rfl
 |n::r,h=>by
  have ih:=x81 r λk hk=>h k (Ê _ hk);obtain⟨h1,h2⟩:=h n É;have s:=Y21 _ h2 _ h1;unfold atV at ih ⊢;rw[u10,u10,u10,u10,u10,Ô];omega
theorem Y31(g:c40 m ps)(h2:2<=m.toNat){l:List Nat}(hl:∀ n∈l,n < ps.length)(hg:g70 ps m.toNat (Ú m.toNat) l=true){v:Nat}(hv:v < m.toNat):∃ n∈l,z41 (tA ps n) (tB ps n) v=true:=by
 apply Ù5;intro no;have hr:∀ p∈Ú m.toNat,p < m.toNat:=λp hp=>Ý.mp hp;have key:=(t40 (ps:=ps) g.rng hr hl).mp hg (λx=>if x=v then 1 else 0) λn hn=>by
  have:¬ z41 (tA ps n) (tB ps n) v=true:=λq=>no ⟨n,hn,q⟩;unfold z41 at this;simp only[À6,decide_eq_true_eq,not_or] at this;show(if tA ps n=v then(1:Int) else 0)=if tB ps n=v then 1 else 0;rw[if_neg (Á0 this.1),if_neg (Á0 this.2)]
 have k1:=key v (Ý.mpr hv);have un:∀ u,u < m.toNat->u≠v->False:=λu hu ne=>by
  have e:(if u=v then(1:Int) else 0)=if v=v then 1 else 0:=(key u (Ý.mpr hu)).trans k1.symm;rw[if_neg ne,if_pos rfl] at e;cases e
 by_cases h0:v=0
 ·exact un 1 ∅ ∅
 ·exact un 0 ∅ (Á0 h0)
def f50(m:Int)(ps:List (Int × Int))(l:List Nat):Bool:=decide ((l.length:Int)=m - 1)&&g70 ps m.toNat (Ú m.toNat) l
theorem O12(g:c40 m ps)(h5:m=5)(h8:ps.length=8):((c30 ps.length).filter (f50 m ps)).length < 64:=by
 have m5:m.toNat=5:=by omega
 have tl:∀ n∈Ú 8,tA ps n < tB ps n/\tB ps n < 5:=λn hn=>by
  obtain⟨h1,h2,_⟩:=g.ab (n:=n) (by rw[h8];exact Ý.mp hn)
  exact⟨h1,by omega⟩
 have ds:=x81 (ps:=ps) _ tl;rw[ø] at ds;have mask:∀ v,∃ a < 256,TS.i60 8 0 a=atV ps v (Ú 8):=λv=>by
  have h:atV ps v (Ú 8)∈c30 8:=y60 (É5 _ Ò0) λn hn=>Ý.mp (å.mp hn).1;rw[t80 (Ì 8)] at h;obtain⟨a,ha,e⟩:=Î.mp h;exact⟨a,Ý.mp ha,e⟩
 have meets:∀ {v a k:Nat},v < 5->a < 256->k < 256->TS.i60 8 0 a=atV ps v (Ú 8)->f50 m ps (TS.i60 8 0 k)=true->beq (k &&& a) 0=false:=λ{v a k} hv ha hk e ht=>by
  unfold f50 at ht;rw[Â] at ht;have hb:∀ n,n∈TS.i60 8 0 k↔n < 8/\k.testBit n=true:=λn=>by rw[M41 k hk,mem_filter,Ý]
  obtain⟨n,hn,hv2⟩:=Y31 g ∅ (λn hn=>by rw[h8];exact((hb n).mp hn).1) ht.2 (v:=v) ∅
  obtain⟨n8,t1⟩:=(hb n).mp hn;have t2:n∈TS.i60 8 0 a:=by rw[e];exact å.mpr ⟨Ý.mpr n8,hv2⟩
  rw[M41 a ha,mem_filter] at t2;have t3:(k &&& a).testBit n=true:=by rw[Nat.testBit_and,t1,t2.2];rfl
  cases q:beq (k &&& a) 0 with
  |false=>rfl|true=>rw[Ë5 q,Nat.zero_testBit] at t3;cases t3
 have fin:∀ {v w a b:Nat},v < 5->w < 5->a < 256->b < 256->TS.i60 8 0 a=atV ps v (Ú 8)->TS.i60 8 0 b=atV ps w (Ú 8)->z31 a b m4 < 64->((c30 ps.length).filter (f50 m ps)).length < 64:=λ{v w a b} hv hw ha hb ea eb hc=>by
  rw[h8,t80 (Ì 8),É7,Ç,← Æ9];rw[← p62,← N72,List.filter_filter,← Æ9] at hc;refine Ã0 (Þ1 λk hk ht=>?_) hc;have hk:=Ý.mp hk;have ht:f50 m ps (TS.i60 8 0 k)=true:=ht;rw[meets hv ha hk ea ht,meets hw hb hk eb ht];unfold f50 at ht;rw[Â,decide_eq_true_eq] at ht;show(true&&true&&(Y11 k == 4))=true;rw[Bool.and_self,È5,beq_iff_eq];unfold Y11;omega
 have small:∀ v < 5,(atV ps v (Ú 8)).length<=2->((c30 ps.length).filter (f50 m ps)).length < 64:=λv hv h=>by
  obtain⟨a,ha,e⟩:=mask v;refine fin hv hv ha ha e e ?_;have:=â.mp N92 a (å.mpr ⟨Ý.mpr ha,Nat.ble_eq.mpr (by unfold Y11;rw[e];exact h)⟩)
  exact Nat.ble_eq.mp this
 have pair:∀ v < 5,∀ w < 5,(atV ps v (Ú 8)).length=3->(atV ps w (Ú 8)).length=3->atV ps v (Ú 8)≠atV ps w (Ú 8)->((c30 ps.length).filter (f50 m ps)).length < 64:=λv hv w hw h1 h2 ne=>by
  obtain⟨a,ha,ea⟩:=mask v;obtain⟨b,hb,eb⟩:=mask w;refine fin hv hw ha hb ea eb ?_;have in3:∀ {a v:Nat},a < 256->TS.i60 8 0 a=atV ps v (Ú 8)->(atV ps v (Ú 8)).length=3->a∈p3:=λha ea h=>by
   rw[← N82];exact å.mpr ⟨Ý.mpr ha,by rw[beq_iff_eq];unfold Y11;rw[ea];exact h⟩
  have:=â.mp (â.mp O02 a (in3 ha ea h1)) b (in3 hb eb h2);rw[À6] at this;rcases this with q | q
  ·have q:a=b:=Ë5 q;subst q;exact absurd (ea.symm.trans eb) ne
  ·exact Nat.ble_eq.mp q
 have trip:∀ v < 5,∀ w < 5,∀ x < 5,v≠w->v≠x->w≠x->(atV ps v (Ú 8)).length=3->(atV ps w (Ú 8)).length=3->(atV ps x (Ú 8)).length=3->((c30 ps.length).filter (f50 m ps)).length < 64:=λv hv w hw x hx n1 n2 n3 h1 h2 h3=>by
  by_cases e1:atV ps v (Ú 8)=atV ps w (Ú 8)
  ·by_cases e2:atV ps v (Ú 8)=atV ps x (Ú 8)
   ·exfalso;obtain⟨n,hn⟩:=List.exists_mem_of_length_pos (l:=atV ps v (Ú 8)) ∅
    have q1:=(å.mp hn).2;have q2:=(å.mp (e1 ▸ hn)).2;have q3:=(å.mp (e2 ▸ hn)).2;unfold z41 at q1 q2 q3;simp only[À6,decide_eq_true_eq] at q1 q2 q3;omega
   ·exact pair v hv x hx h1 h3 e2
  ·exact pair v hv w hw h1 h2 e1
 by_cases c0:(atV ps 0 (Ú 8)).length<=2
 ·exact small 0 (-0) c0
 by_cases c1:(atV ps 1 (Ú 8)).length<=2
 ·exact small 1 (-0) c1
 by_cases c2:(atV ps 2 (Ú 8)).length<=2
 ·exact small 2 (-0) c2
 by_cases c3:(atV ps 3 (Ú 8)).length<=2
 ·exact small 3 (-0) c3
 by_cases c4:(atV ps 4 (Ú 8)).length<=2
 ·exact small 4 (-0) c4
 by_cases d0:(atV ps 0 (Ú 8)).length=3
 ·by_cases d1:(atV ps 1 (Ú 8)).length=3
  ·by_cases d2:(atV ps 2 (Ú 8)).length=3
   ·exact trip 0 (-0) 1 (-0) 2 (-0) (-0) (-0) (-0) d0 d1 d2
   ·exact trip 0 (-0) 1 (-0) 3 (-0) (-0) (-0) (-0) d0 d1 ∅
  ·exact trip 0 (-0) 2 (-0) 3 (-0) (-0) (-0) (-0) d0 ∅ ∅
 ·exact trip 1 (-0) 2 (-0) 3 (-0) (-0) (-0) (-0) ∅ ∅ ∅
def F02(M K:Nat):Nat:=((c30 K).filter λl=>beq (l.length + 1) M).length
theorem Y41:∀ K < 9,∀ M < 7,(K=8/\M=5)∨F02 M K < 64:=by decide +kernel
theorem x91(g:c40 m ps):((c30 ps.length).filter (f50 m ps)).length < 64:=by
 have h8:=g.len;have m1:=g.m1;have m6:=g.m6;rcases Y41 ps.length ∅ m.toNat ∅ with h | h
 ·exact O12 g ∅ h.1
 ·refine Ã0 ?_ h;unfold F02;rw[← Æ9,← Æ9];refine Þ1 λl _ ht=>?_;unfold f50 at ht;rw[Â,decide_eq_true_eq] at ht;show beq (l.length + 1) m.toNat=true;rw[beq_eq];omega
end
def F12:D->Nat
 |.int i=>i.toNat|_=>0
theorem p72(l:List D)(p:D->Bool):bfD .any [.lst (l.map λx=>D.bl (p x))]=some (.d (.bl (l.any p))):=by
 have:∀ l:List D,(l.map λx=>D.bl (p x)).mapM asB=some (l.map p):=λl=>by
  induction l with
  |nil=>rfl
  |cons x r ih =>
   rw[Ç0,Õ1,ih];rfl
 show((l.map λx=>D.bl (p x)).mapM asB).map _=_;rw[this];show some (S.d (.bl ((l.map p).any id)))=_;rw[List.any_map];rfl
theorem Y51{l:List Nat}{i:Nat}(h:i < l.length):cutD (l.map a60) none (some (i:Int))++cutD (l.map a60) (some ((i:Int) + 1)) none=(l.eraseIdx i).map a60:=by
 rw[w11 _ ∅,Ã1,show((i:Int) + 1)=((i + 1:Nat):Int) by omega,t10,List.eraseIdx_eq_take_drop_succ,Á5,List.map_take,List.map_drop]
theorem Y61{l:List Nat}{i:Nat}(hl:l.length<=8)(h:i < l.length):T90 .add (.tup (cutD (l.map a60) none (some (i:Int)))) (.tup (cutD (l.map a60) (some ((i:Int) + 1)) none))=some (.d (b80 (l.eraseIdx i))):=by
 have e1:(cutD (l.map a60) none (some (i:Int))).length<=8:=by rw[w11 _ ∅,Ä5,Ç];omega
 have e2:(cutD (l.map a60) (some ((i:Int) + 1)) none).length<=8:=by rw[show((i:Int) + 1)=((i + 1:Nat):Int) by omega,t10,É9,Ç];omega
 rw[H71 ∅,Y51 h];rfl
theorem C50(k:Nat){l:List Nat}(hl:l.length<=8)(z:Z):c00 T (k + 3) p90 [.d (b80 l)] z=some (.ok (.fr ((X61 l).map b80)) z):=by
 refine W.ok (n10 (ps:=1) (ns:=1) (b:=j70) rfl rfl (-0) ?_)
 refine(a00 (o:=itD .rng1 [.int ((l.map a60).length:Nat)]) (C40 (n:=(l.map a60).length) (by rw[Ç];omega)) ?_ :)
 rw[show(l.map a60).length=l.length from Ç _];refine ip (by rw[Ç,List.length_range'];exact r30 ∅) (c21 (λx=>b80 (l.eraseIdx (F12 x))) (λx hx=>?_) ?_)
 ·obtain⟨i,hi,rfl⟩:=Î.mp hx;have hi:i < l.length:=by rw[← É3] at hi;exact Ý.mp hi
  refine(a00 (Y61 hl hi) ?_ :);exact⟨rfl,rfl⟩
 ·refine sd ?_;rw[Á7,← É3];unfold X61;rw[Á7];rfl
def e80(l:List Nat):List Int:=l.map λ(n:Nat)=>(n:Int)
theorem K80(l:List Nat):Z81 (b80 l)=some (e80 l):=by
 show m20 (l.map a60)=_;have e:l.map a60=(e80 l).map D.int:=by unfold e80;rw[Á7];rfl
 rw[e,d31]
theorem R40:∀ ls:List (List Nat),p41 (ls.map b80)=some (ls.map e80)
 |[]=>rfl
 |l::r=>by
  show(Z81 (b80 l)).bind (λk=>(p41 (r.map b80)).map (k::·))=_;rw[K80,R40 r];rfl
theorem y80{a b:List Nat}(h:e80 a=e80 b):a=b:=by
 have:∀ l:List Nat,(e80 l).map Int.toNat=l:=λl=>by
  unfold e80;rw[Á7];exact Ô3 l
 rw[← this a,h,this b]
theorem I41(ls:List (List Nat))(l:List Nat):(ls.map e80).contains (e80 l)=ls.contains l:=by
 rw[þ,Ì3,Ì3,Î];exact⟨λ⟨x,hx,e⟩=>y80 e ▸ hx,λh=>⟨l,h,rfl⟩⟩
theorem X80(k:Nat){ls:List (List Nat)}(hn:ls.length<=256)(h8:∀ l∈ls,l.length<=8)(z:Z):c00 T (k + 4) F00 [.d (.lst (ls.map b80))] z=some (.ok (.fr ((g90 ls).map b80)) z):=by
 refine W.ok (n10 (ps:=1) (ns:=2) (b:=v70) rfl rfl (-0) ?_)
 refine(a00 (o:=R01 (.lst (ls.map b80))) (a:=ls.map e80) (R40 ls) ?_ :);refine ip (by rw[Ç];exact r30 ∅) (W51 (λx=>!(X61 (x70 x)).any λy=>ls.contains y) id (λx hx=>?_) ?_)
 ·obtain⟨l,hl,rfl⟩:=Î.mp hx;have hl8:=h8 l hl;refine Wo (C50 k hl8 z) ?_;refine ip (by rw[Ç];unfold X61;rw[Ç,ø];exact r30 ∅) (c21 (λy=>.bl (ls.contains (x70 y))) (λy hy=>?_) ?_)
  ·obtain⟨x,_,rfl⟩:=Î.mp hy;refine(a00 (K80 x) ?_ :);refine⟨?_,rfl⟩;rw[I41,j10];cases ls.contains x <;> rfl
  ·refine(a00 (p72 _ λy=>ls.contains (x70 y)) ?_ :);refine⟨?_,rfl,λ_=>⟨rfl,rfl⟩⟩;rw[List.any_map,j10]
   congr 4
   funext y
   show ls.contains (x70 (b80 y))=_;rw[j10]
 ·refine sd ?_;rw[Ô3,É7];have:ls.filter ((λx=>!(X61 (x70 x)).any λy=>ls.contains y) ∘ b80)=g90 ls:=Ò8 λl _=>by show(!(X61 (x70 (b80 l))).any λy=>ls.contains y)=_;rw[j10]
  rw[this]
section
variable {m:Int}{ps:List (Int × Int)}{pl lot:List Nat}
theorem y01(g:c40 m ps):(i40 m ps pl).length<=256:=Ò (À9 _ _) (d21 g.len)
theorem M51(g:c40 m ps){l:List Nat}(h:l∈c30 ps.length):l.length<=8:=Ò (t60 h) g.len
theorem K90(k:Nat)(g:c40 m ps)(hp:w00 m pl)(z:Z):c00 T (k + 10) w80 [.d (D30 m ps),.d (.tup (pl.map a60))] z=some (.ok (.fr ((g90 (i40 m ps pl)).map b80)) z) :=
 W.ok (n10 (ps:=2) (ns:=2) (b:=n60) rfl rfl (-0) (Wo (R10 k g hp z) (Wo (X80 (k + 5) (y01 g) (λl hl=>M51 g ((f70 g).mp hl).1) z) (sd rfl))))
end
theorem y11:∀ ls:List (List Nat),e20 (ls.map b80)=true/\g00 (ls.map b80)<=1
 |[]=>⟨rfl,by decide⟩
 |l::r=>by
  obtain⟨h1,h2⟩:=y11 r;have e:l.map a60=(l.map λ(n:Nat)=>(n:Int)).map D.int:=by rw[Á7];rfl
  obtain⟨g1,g2⟩:=K10 (l.map λ(n:Nat)=>(n:Int));rw[← e] at g1 g2;refine⟨?_,?_⟩
  ·show(e20 (l.map a60)&&e20 (r.map b80))=true;rw[h1,g1];rfl
  ·show Nat.max (g00 (l.map a60) + 1) (g00 (r.map b80))<=1;rw[g2];exact Nat.max_le.mpr ⟨Ì _,h2⟩
section
variable {m:Int}{ps:List (Int × Int)}{pl:List Nat}
theorem y21{ls:List (List Nat)}:(g90 ls).length<=ls.length:=À9 _ _
theorem F22(g:c40 m ps){l:List Nat}(h:l∈g90 (i40 m ps pl)):l.length<=8:=M51 g ((f70 g).mp (n90 h)).1
end
section
variable {m:Int}{ps:List (Int × Int)}
theorem M61{m:Nat}(hr:∀ n < ps.length,tA ps n < m/\tB ps n < m):∀ (l:List Nat) (mk:List Int),mk.length=m->(∀ n∈l,n < ps.length)->S30 mk<=S30 (l.foldl (f40 ps) mk) + l.length
 |[],_,_,_=>Ì _
 |n::r,mk,hm,hl=>by
  have hn:=hr n (hl n É);have ih:=M61 hr r (f40 ps mk n) (by rw[o90];exact hm) λk hk=>hl k (Ê _ hk)
  rw[É6,Ô];by_cases h:mk.getD (tA ps n) 0=mk.getD (tB ps n) 0
  ·rw[step_same h] at ih ⊢;omega
  ·have:=e01 (ps:=ps) (mk:=mk) (n:=n) ∅ ∅ h
   omega
theorem Y71(g:c40 m ps){l:List Nat}(hl:∀ n∈l,n < ps.length)(h:g70 ps m.toNat (Ú m.toNat) l=true):m<=l.length + 1:=by
 have n1:S30 (d70 ps m.toNat l)=1:=(d71 g l).mpr h;have f:=M61 (ps:=ps) g.rng l ((Ú m.toNat).map λ(i:Nat)=>(i:Int)) (by rw[Ç,ø]) hl
 rw[R20] at f;have:m.toNat<=S30 (d70 ps m.toNat l) + l.length:=f;omega
theorem C60(g:c40 m ps):g90 (i40 m ps (Ú m.toNat))=(t70 ps.length).filter (f50 m ps):=by
 unfold g90;rw[show i40 m ps (Ú m.toNat)=(t70 ps.length).filter (g70 ps m.toNat (Ú m.toNat)) from rfl,List.filter_filter];refine Ò8 λl hl=>?_;have l1:l∈c30 ps.length:=(k80 g.len).mem_iff.mp hl;unfold f50;cases hg:g70 ps m.toNat (Ú m.toNat) l with
 |false=>rw[Î1,Î1]
 |true =>
  rw[Ë8,Ë8,þ,decide_eq_true_eq];constructor
  ·intro h;exact(e21 g (å.mpr ⟨(f70 g).mpr ⟨l1,hg⟩,h⟩)).1
  ·intro h;rw[î,List.any_eq_false];intro x hx hc;obtain⟨i,hi,rfl⟩:=Î.mp hx;have hi:=Ý.mp hi;obtain⟨q1,q2⟩:=(f70 g).mp (Ò9.mp hc);have:=Y71 g (j90 q1) q2;rw[Î0 hi] at this;omega
end
theorem L00:∀ a b:List Nat,Q91 (a.map a60) (b.map a60)=decide (a=b)
 |[],[]=>rfl|[],_::_=>rfl|_::_,[]=>rfl
 |x::r,y::q=>by
  show((x:Int) == (y:Int)&&Q91 (r.map a60) (q.map a60))=_;rw[L00 r q,þ,Â,beq_iff_eq,decide_eq_true_eq,decide_eq_true_eq,List.cons.injEq];exact and_congr_left λ_=>by omega
theorem X90:∀ a b:List Nat,MySort.f80 (e80 a) (e80 b)=TS.n91 a b
 |[],[]=>rfl|[],_::_=>rfl|_::_,[]=>rfl
 |x::r,y::q=>by
  show(if (x:Int)=y then MySort.f80 (e80 r) (e80 q) else decide ((x:Int) < y))=if beq x y=true then TS.n91 r q else Ô7 x y;rw[X90 r q];by_cases e:x=y
  ·rw[if_pos (by rw[e]),if_pos (by rw[beq_eq];exact e)]
  ·rw[if_neg ∅,if_neg (by rw[beq_eq];exact e),þ,decide_eq_true_eq]
   show _↔ble (x + 1) y=true;rw[ble_eq];omega
theorem Y00:∀ {a b:List Int} (c d:List Int),a.length=b.length->a≠b->MySort.f80 (a++c) (b++d)=MySort.f80 a b
 |[],[],_,_,_,h=>absurd rfl h|[],_::_,_,_,h,_=>by cases h
 |_::_,[],_,_,h,_=>by cases h
 |x::a,y::b,c,d,h,ne=>by
  show(if x=y then MySort.f80 (a++c) (b++d) else decide (x < y))=if x=y then MySort.f80 a b else decide (x < y);by_cases e:x=y
  ·rw[if_pos e,if_pos e];exact Y00 c d (Nat.succ.inj h) λq=>ne (by rw[e,q])
  ·rw[if_neg e,if_neg e]
def upB:List (List Nat)->Bool
 |[]=>true|x::r=>r.all (λy=>!TS.n91 y x)&&upB r
theorem p82:∀ {l:List (List Nat)},upB l=true->l.Pairwise λx y=>TS.n91 y x=false
 |[],_=>.nil
 |x::r,h=>by
  have h:(r.all (λy=>!TS.n91 y x)&&upB r)=true:=h;rw[Â,Â0] at h;exact Æ0.mpr ⟨λy hy=>by have:=h.1 y hy;rwa [î] at this,p82 h.2⟩
theorem Y81{k:Nat}(h:k<=8):(t70 k).Pairwise λx y=>TS.n91 y x=false:=by
 have:∀ k,k < 9->upB (t70 k)=true:=by decide +kernel
 exact p82 (this k ∅)
def pD(c:List Nat->List Nat)(l:List Nat):D:=.tup [b80 l,b80 (c l)]
theorem C70:∀ l:List Nat,f82 (l.map a60)=e80 l
 |[]=>rfl|n::r=>congrArg ((n:Int)::·) (C70 r)
theorem F90(c:List Nat->List Nat)(l:List Nat):flt (pD c l)=e80 l++e80 (c l):=by
 show f82 (l.map a60)++(f82 ((c l).map a60)++[])=_;rw[C70,C70,Á9]
theorem L10:∀ l:List Nat,E00 (l.map a60) (l.map a60)=true
 |[]=>rfl
 |n::r=>by
  show((n:Int) == (n:Int)&&E00 (r.map a60) (r.map a60))=true;rw[L10 r,beq_self_eq_true];rfl
theorem p92(c:List Nat->List Nat)(l:List Nat):eqT (pD c l) (pD c l)=true:=by
 show(E00 (l.map a60) (l.map a60)&&(E00 ((c l).map a60) ((c l).map a60)&&true))=true;rw[L10,L10];rfl
theorem q02(c:List Nat->List Nat)(l:List Nat):okD (pD c l)=true:=by
 obtain⟨h1,h2⟩:=y11 [l,c l];have h1:e20 [b80 l,b80 (c l)]=true:=h1;have h2:g00 [b80 l,b80 (c l)]<=1:=h2;show(e20 [b80 l,b80 (c l)]&&decide (g00 [b80 l,b80 (c l)] + 1<=40))=true;rw[h1,decide_eq_true ∅];rfl
theorem C22{c:List Nat->List Nat}{a b:List Nat}(hl:a.length=b.length):ltD (pD c a) (pD c b)=some (MySort.f80 (flt (pD c a)) (flt (pD c b))):=by
 by_cases e:a=b
 ·subst e;rw[MySort.h90];show(if eqD (b80 a) (b80 a)=true then(if eqD (b80 (c a)) (b80 (c a))=true then some false else _) else _)=_;have q:∀ l:List Nat,eqD (b80 l) (b80 l)=true:=λl=>(L00 l l).trans (decide_eq_true rfl);rw[if_pos (q a),if_pos (q (c a))]
 ·rw[F90,F90,Y00 _ _ (by unfold e80;rw[Ç,Ç];exact hl) (λq=>e (y80 q)),X90]
  show(if eqD (b80 a) (b80 b)=true then _ else y81 (a.map a60) (b.map a60))=_;rw[show eqD (b80 a) (b80 b)=false from(L00 a b).trans (decide_eq_false e),if_neg Ð];exact U80 a b
theorem i91{c:List Nat->List Nat}{N:Nat}{ls ls':List (List Nat)}(h64:ls.length < 64)(hlen:∀ l∈ls,l.length=N)(hp:ls'.Perm ls)(hup:ls'.Pairwise λx y=>TS.n91 y x=false):bfD .sorted [.lst (ls.map (pD c))]=some (.fr (ls'.map (pD c))):=by
 have len:∀ a∈ls,∀ b∈ls,a.length=b.length:=λa ha b hb=>by rw[hlen a ha,hlen b hb]
 have inj:∀ a∈ls,∀ b∈ls,flt (pD c a)=flt (pD c b)->a=b:=λa ha b hb e=>by
  rw[F90,F90] at e;exact y80 (List.append_inj_left e (by unfold e80;rw[Ç,Ç];exact len a ha b hb))
 have ok:l80 (ls.map (pD c))=true:=by
  unfold l80;refine â.mpr λx hx=>?_;obtain⟨a,ha,rfl⟩:=Î.mp hx;rw[Â,Â];refine⟨rfl,q02 c a,â.mpr λy hy=>?_⟩;obtain⟨b,hb,rfl⟩:=Î.mp hy;unfold l70;rw[Â,Â,À6];refine⟨rfl,by rw[C22 (len a ha b hb)];exact beq_self_eq_true _,?_⟩
  by_cases e:a=b
  ·subst e;exact .inl (p92 c a)
  ·refine .inr ?_;rw[î,beq_eq_false_iff_ne];exact λq=>e (inj a ha b hb q)
 show(if (ls.map (pD c)).length < 64/\l80 (ls.map (pD c))=true then some (S.fr (A00 (ls.map (pD c)))) else(f92 (ls.map (pD c))).map S.fr)=_;rw[if_pos ⟨by rw[Ç];exact h64,ok⟩]
 congr 2
 refine F31 (hp.map _) ?_ λx hx y hy e=>?_
 ·rw[Ø1];refine Õ5.imp_of_mem (λ{a b} ha hb h=>?_) hup;by_cases e:b=a
  ·subst e;exact MySort.h90 _
  ·rw[F90,F90,Y00 _ _ (by unfold e80;rw[Ç,Ç];exact len b (hp.mem_iff.mp hb) a (hp.mem_iff.mp ha)) (λq=>e (y80 q)),X90]
   exact h
 ·obtain⟨a,ha,rfl⟩:=Î.mp hx;obtain⟨b,hb,rfl⟩:=Î.mp hy;rw[inj a ha b hb e]
section
variable {m:Int}{ps:List (Int × Int)}
theorem j01(g:c40 m ps)(c:List Nat->List Nat):bfD .sorted [.lst (((c30 ps.length).filter (f50 m ps)).map (pD c))]=some (.fr ((g90 (i40 m ps (Ú m.toNat))).map (pD c))):=by
 rw[C60 g];refine i91 (N:=(m - 1).toNat) (x91 g) (λl hl=>?_) ((k80 g.len).filter _) (É5 _ (Y81 g.len));have:=(å.mp hl).2;unfold f50 at this;rw[Â,decide_eq_true_eq] at this;omega
end
def wyD(r:Wy):D:=.tup [a60 r.1,b80 r.2]
def F32:D->D
 |.tup (a::_)=>a|_=>.non
def F42:D->D
 |.tup [_,b]=>b|_=>.non
theorem e61:∀ l:List Wy,i70 (l.map wyD)=true
 |[]=>rfl
 |r::l=>by
  show((i70 (r.2.map a60)&&true)&&i70 (l.map wyD))=true;rw[c70,e61 l];rfl
theorem e71(l:List Nat)(n:Nat):l.map a60++[a60 n]=(l++[n]).map a60:=by rw[Á5];rfl
theorem y31{ps:List (Int × Int)}{tree:List Nat}{s e:Nat}:∀ L:Nat,(∃ r∈lev ps tree s L,r.1=e)->∃ L0,L0<=L/\(∃ r∈lev ps tree s L0,r.1=e)/\∀ J < L0,∀ r∈lev ps tree s J,r.1≠e:=λL=>by
 induction L using Û4 with
 |ind L ih =>
  intro h;by_cases c:∃ J,J < L/\∃ r∈lev ps tree s J,r.1=e
  ·obtain⟨J,hJ,hr⟩:=c;obtain⟨L0,a,b⟩:=ih J hJ hr;exact⟨L0,by omega,b⟩
  ·exact⟨L,Ì _,h,λJ hJ r hr q=>c ⟨J,hJ,r,hr,q⟩⟩
theorem I51{ps:List (Int × Int)}{tree:List Nat}{a b:List Wy}:u00 ps tree (a++b)=u00 ps tree a++u00 ps tree b:=List.flatMap_append
section
variable {m:Int}{ps:List (Int × Int)}{tree:List Nat}{s e:Nat}
abbrev wE(m:Int)(ps:List (Int × Int))(tree:List Nat)(s e:Nat)(o4 o5 o6 o7 o8:Option S):Env:=[some (.d (D30 m ps)),some (.d (b80 tree)),some (.d (a60 s)),some (.d (a60 e)),o4,o5,o6,o7,o8]
theorem c40.at_(g:c40 m ps){n:Nat}(hn:n < ps.length):L40 (.tup (ps.map pr)) (a60 n)=some (.tup [a60 (tA ps n),a60 (tB ps n)]):=by
 show L40 (.tup (ps.map pr)) (.int n)=_;rw[w81 hn,show ps.getD n (0,0)=pf ps n from rfl,(g.ab hn).2.2];rfl
theorem Y91{h n:Nat}:memD (a60 h) [a60 (tA ps n),a60 (tB ps n)]=X60 ps h n:=by
 have:=K50 h [tA ps n,tB ps n];rw[show memD (a60 h) [a60 (tA ps n),a60 (tB ps n)]=memD (a60 h) ([tA ps n,tB ps n].map a60) from rfl,this];unfold X60;rw[þ];simp
theorem O22{t J:Nat}(ht:t<=5)(hJ:J<=5):t ^ J<=3125:=Ò (Nat.pow_le_pow_left ht J) (Ò (È2 (n:=5) (-0) hJ) (-0))
theorem I61(k:Nat)(g:c40 m ps)(ht:∀ n∈tree,n < ps.length)(h5:tree.length<=5){rows:List Wy}(hr:rows.length<=625)(hw:∀ r∈rows,r.2.length<=8){x4:S}(h4:plS x4=.d (.lst (rows.map wyD))){o5 o6 o7 o8:Option S}{z:Z}{Q:O->Z->Prop}{E:Nat->Z->Prop}{tp:Bool}
  (q:∀ o5 o6 o7 o8,Q (.nx (wE m ps tree s e (some (.d (.lst ((u00 ps tree rows).map wyD)))) o5 o6 o7 o8)) z) :
  WS (Z90 T (k + 2)) tp (match o70 with | .seq _ (.seq (.whl _ b) _)=>b | _=>.nil) (wE m ps tree s e (some x4) o5 o6 o7 o8) z Q E:=by
 refine(W50 (.fr []) (wE m ps tree s e (some x4) (some (.fr [])) o6 o7 o8) ?_ ?_ ?_ :)
 ·exact⟨rfl,rfl⟩
 ·rw[B70 rfl];rfl
 refine(a00 (o:=(plA [plS x4]).bind (itD .seq)) (a:=rows.map wyD) (by rw[h4];rfl) ?_ :)
 refine B60 (λxs ρ z1=>z1=z/\∃ (dn rest:List Wy) (o6 o7 o8:Option S),dn++rest=rows/\xs=rest.map wyD/\ρ=wE m ps tree s e (some (plS x4)) (some (.fr ((u00 ps tree dn).map wyD))) o6 o7 o8) _ ⟨rfl,[],rows,_,_,_,rfl,rfl,(itE (by rw[h4];show(i70 (rows.map wyD)&&true)=true;rw[e61];rfl)).trans rfl⟩ ?_ ?_
 ·rintro x r ρ z1 ⟨rfl,dn,rest,o6,o7,o8,hd,ex,rfl⟩;cases rest with
  |nil=>cases ex
  |cons w rest =>
   cases ex;have hdl:dn.length<=625:=by have:=congrArg Ó4 hd;rw[õ] at this;omega
   have hwl:w.2.length<=8:=hw w (by rw[← hd];exact ã _ É)
   refine B60 (λxs ρ z2=>z2=z1/\∃ (d2 r2:List Nat) (o8:Option S),d2++r2=tree/\xs=r2.map a60/\ρ=wE m ps tree s e (some (plS x4)) (some (.fr ((u00 ps tree dn++(d2.filter (D70 ps w)).map (f10 ps w)).map wyD))) (some (.d (a60 w.1))) (some (.d (b80 w.2))) o8) _ ⟨rfl,[],tree,_,rfl,rfl,(itE (by show(i70 (tree.map a60)&&true)=true;rw[c70];rfl)).trans (by rw[Ì2,map_nil,Á9];rfl)⟩ ?_ ?_
   ·rintro x r ρ z2 ⟨rfl,d2,r2,o8,hd2,ex,rfl⟩;cases r2 with
    |nil=>cases ex
    |cons n r2 =>
     cases ex;have hn:n∈tree:=by rw[← hd2];exact ã _ É
     have hd2':(d2++[n])++r2=tree:=by rw[Æ7];exact hd2
     have hd2l:d2.length<=5:=by have:=congrArg Ó4 hd2;rw[õ] at this;omega
     have no:D70 ps w n=false->wE m ps tree s e (some (plS x4)) (some (.fr ((u00 ps tree dn++(d2.filter (D70 ps w)).map (f10 ps w)).map wyD))) (some (.d (a60 w.1))) (some (.d (b80 w.2))) (some (.d (a60 n)))=wE m ps tree s e (some (plS x4)) (some (.fr ((u00 ps tree dn++((d2++[n]).filter (D70 ps w)).map (f10 ps w)).map wyD))) (some (.d (a60 w.1))) (some (.d (b80 w.2))) (some (.d (a60 n))):=λh=>by
      rw[É0,Æ5,h,if_neg Ð,Ì2,Á9]
     refine(a00 (g.at_ (ht n hn)) ?_ :);refine ib (b:=memD (a60 w.1) [a60 (tA ps n),a60 (tB ps n)]) (λhb=>?_) λhb=>?_ <;> rw[Y91] at hb
     ·refine(a00 (o:=(j41 (a60 n) (w.2.map a60)).map (!·)) (a:=!decide (n∈w.2)) (by rw[K60];rfl) ?_ :)
      refine ib (b:=!decide (n∈w.2)) (λhc=>?_) λhc=>?_
      ·refine(a00 (g.at_ (ht n hn)) ?_ :);refine(a00 (H71 (a:=w.2.map a60) (b:=[a60 n]) (by rw[Ç];show _ + 1<=_;omega)) ?_ :)
       have hx:X60 ps w.1 n=true:=hb;unfold X60 at hx;simp only[À6,decide_eq_true_eq] at hx;have ei:(tA ps n:Int) + ((tB ps n:Int) + 0) - (w.1:Int)=((e31 ps w.1 n:Nat):Int):=by unfold e31;omega
       refine ip ⟨?_,?_⟩ ?_
       ·show(i70 (w.2.map a60++[a60 n])&&true)=true;rw[e71,c70];rfl
       ·rw[Ç,õ,Ç];have h1:=e51 (ps:=ps) (tree:=tree) (rows:=dn);have h2:=À9 (D70 ps w) d2;have h3:dn.length * tree.length<=625 * 5:=Nat.mul_le_mul hdl h5;simp only[most];omega
       ·refine⟨rfl,d2++[n],r2,some (.d (a60 n)),hd2',rfl,?_⟩;have hgo:D70 ps w n=true:=by unfold D70;rw[hb,hc];rfl
        have e1:((d2++[n]).filter (D70 ps w)).map (f10 ps w)=(d2.filter (D70 ps w)).map (f10 ps w)++[f10 ps w n]:=by
         rw[É0,Æ5,hgo,if_pos rfl,Ì2,Á5];rfl
        have e2:(u00 ps tree dn++(d2.filter (D70 ps w)).map (f10 ps w)).map wyD++[D.tup [.int ((tA ps n:Int) + ((tB ps n:Int) + 0) - (w.1:Int)),.tup (w.2.map a60++[a60 n])]]=(u00 ps tree dn++((d2++[n]).filter (D70 ps w)).map (f10 ps w)).map wyD:=by
         rw[e1,← Æ7,Á5 (l₂:=[f10 ps w n]),ei,e71];rfl
        exact congrArg (λl=>wE m ps tree s e (some (plS x4)) (some (.fr l)) (some (.d (a60 w.1))) (some (.d (b80 w.2))) (some (.d (a60 n)))) e2
      ·exact⟨rfl,d2++[n],r2,_,hd2',rfl,no (by unfold D70;rw[hb,hc];rfl)⟩
     ·exact⟨rfl,d2++[n],r2,_,hd2',rfl,no (by unfold D70;rw[hb];rfl)⟩
   ·rintro ρ z2 ⟨rfl,d2,r2,o8,hd2,ex,rfl⟩;cases r2 with
    |cons _ _=>cases ex
    |nil =>
     rw[Á9] at hd2;subst hd2;refine⟨rfl,dn++[w],rest,some (.d (a60 w.1)),some (.d (b80 w.2)),o8,by rw[Æ7];exact hd,rfl,?_⟩
     rw[I51,show u00 ps d2 [w]=(d2.filter (D70 ps w)).map (f10 ps w) from Á9 _]
 ·rintro ρ z1 ⟨rfl,dn,rest,o6,o7,o8,hd,ex,rfl⟩;cases rest with
  |cons _ _=>cases ex
  |nil =>
   rw[Á9] at hd;subst hd;exact q _ _ _ _
theorem Z01{a b:Nat}:((a:Int) == (b:Int))=decide (a=b):=by
 rw[þ,beq_iff_eq,decide_eq_true_eq];omega
theorem j11(k:Nat)(g:c40 m ps)(ht:∀ n∈tree,n < ps.length)(h5:tree.length<=5)(hL:∃ L w,L<=tree.length/\(e,w)∈lev ps tree s L)(z:Z):∃ L w,(e,w)∈lev ps tree s L/\c00 T (k + 3) F20 [.d (D30 m ps),.d (b80 tree),.d (a60 s),.d (a60 e)] z=some (.ok (.d (b80 w)) z):=by
 obtain⟨L,w,hL,hw⟩:=hL;obtain⟨L0,le,⟨r1,hr1,e1⟩,fst⟩:=y31 L ⟨(e,w),hw,rfl⟩;obtain⟨r0,rest0,h0⟩:∃ r0 rest0,(lev ps tree s L0).filter (λr=>decide (r.1=e))=r0::rest0:=by
  cases h:(lev ps tree s L0).filter (λr=>decide (r.1=e)) with
  |nil=>exact absurd (å.mpr ⟨hr1,decide_eq_true e1⟩) (by rw[h];exact Æ4)|cons a b=>exact⟨a,b,rfl⟩
 have hm:r0∈(lev ps tree s L0).filter (λr=>decide (r.1=e)):=by rw[h0];exact É
 obtain⟨m1,m2⟩:=å.mp hm;rw[decide_eq_true_eq] at m2;refine⟨L0,r0.2,by rw[← m2];exact m1,?_⟩
 refine W.ok (n10 (ps:=4) (ns:=9) (b:=o70) rfl rfl (-0) ?_)
 refine(W50 (.fr [wyD (s,[])]) (wE m ps tree s e (some (.fr [wyD (s,[])])) none none none none) ?_ ?_ ?_ :)
 ·exact⟨rfl,rfl⟩
 ·rw[B70 rfl];rfl
 refine o32 (λn ρ z1=>z1=z/\∃ (J:Nat) (x4:S) (o5 o6 o7 o8:Option S),J + n=L0/\plS x4=.d (.lst ((lev ps tree s J).map wyD))/\ρ=wE m ps tree s e (some x4) o5 o6 o7 o8) L0 ⟨rfl,0,_,_,_,_,_,zero_add _,rfl,rfl⟩ (by show L0 < 20000;omega) ?_
 rintro n ρ z1 ⟨rfl,J,x4,o5,o6,o7,o8,hJ,h4,rfl⟩;have len:(lev ps tree s J).length<=3125:=Ò (X70 J) (O22 h5 ∅)
 refine(a00 (o:=(plA [plS x4]).bind (itD .seq)) (a:=(lev ps tree s J).map wyD) (by rw[h4];rfl) ?_ :)
 refine ip (by rw[Ç];simp only[most];omega) (c21 F32 (λx hx=>?_) ?_)
 ·obtain⟨r,_,rfl⟩:=Î.mp hx;exact⟨rfl,rfl⟩
 rw[Á7,show(lev ps tree s J).map (F32 ∘ wyD)=((lev ps tree s J).map (·.1)).map a60 from by rw[Á7];rfl]
 refine(a00 (o:=(j41 (a60 e) (((lev ps tree s J).map (·.1)).map a60)).map (!·)) (a:=!decide (e∈(lev ps tree s J).map (·.1))) (by rw[K60];rfl) ?_ :)
 by_cases c:J=L0
 ·subst c;refine ie (b:=!decide (e∈(lev ps tree s J).map (·.1))) (by rw[decide_eq_true (Î.mpr ⟨r1,hr1,e1⟩)];rfl) ?_
  refine(a00 (o:=(plA [plS x4]).bind (itD .seq)) (a:=(lev ps tree s J).map wyD) (by rw[h4];rfl) ?_ :)
  refine ip (by rw[Ç];simp only[most];omega) (W51 (λx=>match x with | .tup (.int i::_)=>decide (i.toNat=e) | _=>false) F42 (λx hx=>?_) ?_)
  ·obtain⟨r,_,rfl⟩:=Î.mp hx;refine⟨?_,rfl,λ_=>⟨rfl,rfl⟩⟩;show S.d (.bl ((r.1:Int) == (e:Int)))=.d (.bl (decide ((r.1:Int).toNat=e)));rw[Z01,Ã1]
  ·rw[É7,Á7,show(lev ps tree s J).filter ((λx=>match x with | .tup (.int i::_)=>decide (i.toNat=e) | _=>false) ∘ wyD)=r0::rest0 from h0]
   refine(a00 (o:=L40 (.lst (b80 r0.2::rest0.map (F42 ∘ wyD))) (.int 0)) (a:=b80 r0.2) (L2.u70 (j:=0) rfl) ?_ :);exact sd rfl
 ·have no:e ∉ (lev ps tree s J).map (·.1):=λq=>by
   obtain⟨r,hr,er⟩:=Î.mp q;exact fst J ∅ r hr er
  refine it (b:=!decide (e∈(lev ps tree s J).map (·.1))) (by rw[decide_eq_false no];rfl) ?_
  refine I61 k g ht h5 (rows:=lev ps tree s J) (Ò (X70 J) (Ò (Nat.pow_le_pow_left h5 J) (Ò (È2 (n:=5) (-0) (show J<=4 by omega)) (-0)))) (λr hr=>by have:=(R30 hr).1;omega) h4 λo5 o6 o7 o8=>?_
  exact⟨n - 1,by omega,rfl,J + 1,_,_,_,_,_,by omega,rfl,rfl⟩
end
theorem M71:∀ {w:List Nat},w≠[]->∃ M∈w,∀ x∈w,x<=M
 |[],h=>absurd rfl h|[a],_=>⟨a,É,λx hx=>by rw[À8] at hx;omega⟩
 |a::b::r,_=>by
  obtain⟨M,h1,h2⟩:=M71 (w:=b::r) (by simp)
  by_cases h:a<=M
  ·exact⟨M,Ê _ h1,λx hx=>(è.mp hx).elim (λe=>by omega) (h2 x)⟩
  ·exact⟨a,É,λx hx=>(è.mp hx).elim (λe=>by omega) λq=>by have:=h2 x q;omega⟩
theorem q12{w:List Nat}(h:w≠[]):∃ M∈w,(∀ x∈w,x<=M)/\bfD .max [b80 w]=some (.d (a60 M)):=by
 obtain⟨M,h1,h2⟩:=M71 h;refine⟨M,h1,h2,?_⟩;show(m20 (w.map a60)).bind v12=_;rw[show m20 (w.map a60)=some (e80 w) from K80 w];show((e80 w).find? λa=>(e80 w).all λb=>decide (b<=a)).map (λa=>S.d (.int a))=_;have ex:((e80 w).find? λa=>(e80 w).all λb=>decide (b<=a))=some (M:Int):=by
  cases e:(e80 w).find? λa=>(e80 w).all λb=>decide (b<=a) with
  |none =>
   have:=List.find?_eq_none.mp e (M:Int) (Î.mpr ⟨M,h1,rfl⟩);refine absurd (â.mpr λb hb=>?_) this;obtain⟨x,hx,rfl⟩:=Î.mp hb;have:=h2 x hx;rw[decide_eq_true_eq];omega
  |some a =>
   obtain⟨x,hx,rfl⟩:=Î.mp (Ï2 e);have q0:=Ú6 e;have q:=â.mp q0 (M:Int) (Î.mpr ⟨M,h1,rfl⟩);rw[decide_eq_true_eq] at q;have:=h2 x hx
   congr 1;omega
 rw[ex];rfl
section
variable {m:Int}{ps:List (Int × Int)}{tree lot pl:List Nat}
theorem c40.all(g:c40 m ps):w00 m (Ú m.toNat):=⟨λe=>by have:=congrArg Ó4 e;rw[ø] at this;have:=g.m1;simp at *;omega,Ò0,λp hp=>by have:=Ý.mp hp;omega⟩
theorem L20(k:Nat)(g:c40 m ps)(z:Z):c00 T (k + 3) w60 [.d (D30 m ps)] z=some (.ok (.d (.tup ((Ú m.toNat).map a60))) z):=by
 have m1:=g.m1;have m6:=g.m6;refine W.ok (n10 (ps:=1) (ns:=1) (b:=n30) rfl rfl (-0) ?_)
 refine(a00 (o:=lrD [.int m]) (Q30 ∅ ∅) ?_ :)
 exact sd rfl
abbrev j21(tree:List Nat)(n:Nat):List Nat:=tree.filter λk=>decide (k < n)
def x80(m:Int)(ps:List (Int × Int))(tree:List Nat)(n:Nat):Bool:=!g70 ps m.toNat [tA ps n,tB ps n] (j21 tree n)
theorem y41(k:Nat)(g:c40 m ps)(ht:∀ n∈tree,n < ps.length)(h8:tree.length<=8){n:Nat}(hn:n < ps.length)(z:Z):c00 T (k + 5) l90 [.d (D30 m ps),.d (b80 tree),.d (a60 n)] z=some (.ok (.d (.bl (x80 m ps tree n))) z):=by
 refine W.ok (n10 (k:=k + 2) (ps:=3) (ns:=4) (b:=g60) rfl rfl (-0) ?_)
 refine(W50 (.d (b80 (j21 tree n))) [some (.d (D30 m ps)),some (.d (b80 tree)),some (.d (a60 n)),some (.d (b80 (j21 tree n)))] ?_ ?_ ?_ :)
 ·refine ip (by rw[Ç];exact r30 ∅) (W51 (λx=>match x with | .int i=>decide (i < (n:Int)) | _=>false) id (λx hx=>?_) ?_)
  ·obtain⟨j,hj,rfl⟩:=Î.mp hx;exact⟨rfl,rfl,λ_=>⟨rfl,rfl⟩⟩
  ·rw[Ô3,É7];have e:tree.filter ((λx=>match x with | .int i=>decide (i < (n:Int)) | _=>false) ∘ a60)=j21 tree n:=Ò8 λj _=>by
    show decide ((j:Int) < n)=decide (j < n);rw[þ,decide_eq_true_eq,decide_eq_true_eq];omega
   rw[e];exact⟨rfl,rfl⟩
 ·rw[B70 (show D00 (.d (b80 (j21 tree n)))=true from c70 _)];rfl
 refine(a00 (g.at_ hn) ?_ :);exact Wo (t50 k g (g.two hn) (Row.t (j21 tree n)) (λj hj=>ht j (å.mp hj).1) z) (sb rfl)
def m30(m:Int)(ps:List (Int × Int))(tree:List Nat):List Nat:=(H91 ps.length tree).filter (x80 m ps tree)
theorem R50(k:Nat)(g:c40 m ps)(ht:∀ n∈tree,n < ps.length)(h8:tree.length<=8)(z:Z):c00 T (k + 6) B90 [.d (D30 m ps),.d (b80 tree)] z=some (.ok (.d (pD (m30 m ps) tree)) z):=by
 have p8:=g.len;refine W.ok (n10 (k:=k + 3) (ps:=2) (ns:=3) (b:=q80) rfl rfl (-0) (Wo (K70 (k + 2) g.len tree z) ?_))
 have cl:(H91 ps.length tree).length<=8:=Ò (À9 _ _) (by rw[ø];exact p8)
 refine ip (by rw[Ç];exact r30 ∅) (W51 (λx=>x80 m ps tree (F12 x)) id (λx hx=>?_) ?_)
 ·obtain⟨j,hj,rfl⟩:=Î.mp hx;refine Wo (y41 k g ht h8 (X51 hj) z) ⟨rfl,rfl,λ_=>⟨rfl,rfl⟩⟩
 ·rw[Ô3,É7];exact sd rfl
theorem q22(g:c40 m ps){l:List Nat}(h:l∈g90 (i40 m ps pl)):∀ n∈l,n < ps.length:=j90 ((f70 g).mp (n90 h)).1
abbrev R60(m:Int)(ps:List (Int × Int)):D:=.tup ((g90 (i40 m ps (Ú m.toNat))).map (pD (m30 m ps)))
theorem q20(k:Nat)(g:c40 m ps)(z:Z):c00 T (k + 12) e50 [.d (D30 m ps)] z=some (.ok (.d (R60 m ps)) z):=by
 refine W.ok (n10 (k:=k + 9) (ps:=1) (ns:=1) (b:=h50) rfl rfl (-0) (Wo (x20 (k + 3) z g.web) (Wo (L20 (k + 8) g z) (Wo (K90 (k + 1) g g.all z) ?_))))
 refine ip (by rw[Ç];exact r30 (Ò (Ò y21 (y01 g)) (-0))) (c21 (λx=>pD (m30 m ps) (x70 x)) (λx hx=>?_) ?_)
 ·obtain⟨l,hl,rfl⟩:=Î.mp hx;refine Wo (R50 (k + 5) g (q22 g hl) (F22 g hl) z) ⟨?_,rfl⟩;rw[j10]
 ·refine sd ?_;rw[Á7];exact congrArg (λl=>S.d (.tup l)) (Å8 λl _=>by show pD (m30 m ps) (x70 (b80 l))=pD (m30 m ps) l;rw[j10])
theorem D40(k:Nat){x:D}(z:Z)(h:z11 x=false):c00 T (k + 12) e50 [.d x] z=some (.er 0 z):=W.er (n10 (k:=k + 9) (ps:=1) (ns:=1) (b:=h50) rfl rfl (-0) (We (Q20 (k + 3) z h) ⟨rfl,B50 z⟩))
theorem q32(h:pl≠[]):L40 (.lst (pl.map a60)) (.int 0)=some (a60 (pl.getD 0 0)):=by
 cases pl with
 |nil=>exact absurd rfl h|cons a r=>exact L2.u70 (j:=0) rfl
theorem R70(k:Nat)(g:c40 m ps)(hp:w00 m pl){x:D}(hx:Row x lot)(hl:∀ n∈lot,n < ps.length)(z:Z):c00 T (k + 4) C10 [.d (D30 m ps),.d x,.d (.lst (pl.map a60))] z=some (.ok (.d (.bl (g70 ps m.toNat pl lot))) z):=by
 have hlen:=hp.len g.m6;refine W.ok (n10 (ps:=3) (ns:=4) (b:=r00) rfl rfl (-0) (Wo (R00 k g hx hl z) ?_))
 have ml:(d70 ps m.toNat lot).length=m.toNat:=t30;generalize hmk:d70 ps m.toNat lot=mk at ml;refine ip (by rw[Ç];simp only[most];omega) (W51 (λx=>!eqM mk (pl.getD 0 0) x) (λx=>x) (λy hy=>?_) ?_)
 ·obtain⟨p,hp',rfl⟩:=Î.mp hy;have:=hp.lt p hp';refine(a00 (H41 (mk:=mk) (p:=p) ∅) ?_ :)
  refine(a00 (q32 hp.ne) ?_ :);refine(a00 (H41 (mk:=mk) (by rw[ml];exact hp.p0)) ?_ :)
  exact⟨rfl,rfl,λ_=>⟨rfl,rfl⟩⟩
 ·rw[List.map_id',H61];refine(a00 (X31 (H51 _)) ?_ :);refine sb ?_;unfold g70 w71;rw[hmk,List.isEmpty_map,þ,Ë6,List.filter_eq_nil_iff,Â0];refine forall_congr' λp=>forall_congr' λ_=>?_;show ¬ (!(mk.getD p 0 == mk.getD (pl.getD 0 0) 0))=true↔_;cases mk.getD p 0 == mk.getD (pl.getD 0 0) 0 <;> simp
abbrev dE(m:Int)(ps:List (Int × Int))(o2 o3 o4 o5 o6:Option S):Env:=[some (.d (D30 m ps)),some (.fr ((Ú m.toNat).map a60)),o2,o3,o4,o5,o6]
theorem I71(k:Nat)(g:c40 m ps)(ht:tree∈g90 (i40 m ps (Ú m.toNat))){o2 o5 o6:Option S}{z:Z}{r:Sm}{Q:O->Z->Prop}{E:Nat->Z->Prop}{tp:Bool}
  (q:∀ o5 o6,WS (Z90 T (k + 3 + 2)) tp r (dE m ps o2 (some (.d (b80 tree))) (some (.fr ((m30 m ps tree).map a60))) o5 o6) z Q E) :
  WS (Z90 T (k + 3 + 2)) tp (.seq (match o80 with | .seq _ (.seq _ (.seq (.fr _ _ _ (.seq (.iff _ (.seq _ (.seq f _)) _) _)) _))=>f | _=>.nil) r) (dE m ps o2 (some (.d (b80 tree))) (some (.fr [])) o5 o6) z Q E:=by
 have h8:=g.len;have tl:=q22 g ht;obtain⟨t1,t2⟩:=(f70 g).mp (n90 ht);have t5:tree.length<=5:=by have:=(e21 g ht).1;have:=g.m6;omega
 refine(a00 (o:=itD .rng1 [.int ((ps.map pr).length:Nat)]) (C40 (n:=(ps.map pr).length) (by rw[Ç];omega)) ?_ :)
 rw[show(ps.map pr).length=ps.length from Ç _];refine B60 (λxs ρ z1=>z1=z/\∃ (j r:Nat) (o5 o6:Option S),j + r=ps.length/\xs=(Ã3 j r).map a60/\ρ=dE m ps o2 (some (.d (b80 tree))) (some (.fr ((((Ú j).filter λn=>!tree.contains n).filter (x80 m ps tree)).map a60))) o5 o6) _ ⟨rfl,0,ps.length,_,_,zero_add _,rfl,(itE (by rfl)).trans rfl⟩ ?_ ?_
 ·rintro x r ρ z1 ⟨rfl,j,r',o5,o6,hj,e,rfl⟩;cases r' with
  |zero=>cases e
  |succ r' =>
   rw[Ä4] at e;cases e;have hjl:j < ps.length:=by omega
   have snoc:∀ b:Bool,(!tree.contains j&&x80 m ps tree j)=b->(((Ú (j + 1)).filter λn=>!tree.contains n).filter (x80 m ps tree)).map a60=(((Ú j).filter λn=>!tree.contains n).filter (x80 m ps tree)).map a60++if b=true then [a60 j] else []:=λb hb=>by
    rw[List.range_succ,É0,É0,Á5]
    congr 1
    rw[Æ5,Ì2];cases hc:tree.contains j with
    |true=>rw[hc] at hb;subst hb;rfl
    |false =>
     rw[hc] at hb;have hb:x80 m ps tree j=b:=hb;show([j].filter (x80 m ps tree)).map a60=_;rw[Æ5,hb,Ì2];cases b <;> rfl
   refine(a00 (o:=(j41 (a60 j) (tree.map a60)).map (!·)) (a:=!tree.contains j) (by rw[K60,Ó6];rfl) ?_ :)
   refine ib (b:=!tree.contains j) (λhb=>?_) λhb=>?_
   ·have hjt:j ∉ tree:=λq=>by rw[î,Ó6,decide_eq_false_iff_not] at hb;exact hb q
    obtain⟨a1,a2,_⟩:=g.ab hjl;obtain⟨L,w,hw,hway⟩:=j11 (k + 2) g tl t5 (Y01 g tl t2 (s:=tA ps j) (e:=tB ps j) ∅ a2) z1
    have wne:w≠[]:=λe=>by
     subst e;have:=(R30 hw).2.2.2 (λx=>(x:Int)) (λn hn=>nomatch hn);have:((tA ps j:Nat):Int)=((tB ps j:Nat):Int):=this;omega
    obtain⟨M,M1,M2,eM⟩:=q12 wne;have wl:=I31 g ht hjl hjt hw;have ip':decide ((j:Int) < (M:Int))=x80 m ps tree j:=by
     unfold x80;rw[þ,decide_eq_true_eq,î,← wl];constructor
     ·intro h;exact⟨M,M1,by omega⟩
     ·rintro ⟨x,hx,hlt⟩;have:=M2 x hx;omega
    refine(W50 (.d (b80 w)) (dE m ps o2 (some (.d (b80 tree))) (some (.fr ((((Ú j).filter λn=>!tree.contains n).filter (x80 m ps tree)).map a60))) (some (.d (a60 j))) (some (.d (b80 w)))) ?_ ?_ ?_ :)
    ·refine(a00 (g.at_ hjl) ?_ :);refine(a00 (g.at_ hjl) ?_ :);exact Wo hway ⟨rfl,rfl⟩
    ·rw[B70 (show D00 (.d (b80 w))=true from c70 _)];rfl
    refine(a00 eM ?_ :);refine ib (b:=decide ((j:Int) < (M:Int))) (λhc=>?_) λhc=>?_ <;> rw[ip'] at hc
    ·refine ip ⟨rfl,?_⟩ ⟨rfl,j + 1,r',some (.d (a60 j)),some (.d (b80 w)),by omega,rfl,?_⟩
     ·rw[Ç];refine Ã0 (Ò (À9 _ _) (À9 _ _)) ?_;rw[ø];simp only[most];omega
     ·rw[snoc true (by rw[hb,hc];rfl)];rfl
    ·refine⟨rfl,j + 1,r',some (.d (a60 j)),some (.d (b80 w)),by omega,rfl,?_⟩
     rw[snoc false (by rw[hb,hc];rfl)]
     exact congrArg (λl=>dE m ps o2 (some (.d (b80 tree))) (some (.fr l)) (some (.d (a60 j))) (some (.d (b80 w)))) (Á9 _).symm
   ·refine⟨rfl,j + 1,r',some (.d (a60 j)),o6,by omega,rfl,?_⟩
    rw[snoc false (by rw[hb];rfl)]
    exact congrArg (λl=>dE m ps o2 (some (.d (b80 tree))) (some (.fr l)) (some (.d (a60 j))) o6) (Á9 _).symm
 ·rintro ρ z1 ⟨rfl,j,r',o5,o6,hj,e,rfl⟩;cases r' with
  |succ r'=>rw[Ä4] at e;cases e
  |zero =>
   have hj:j=ps.length:=hj;subst hj;exact q _ _
end
theorem eq_self(h:okD x=true)(hs:Z71 .seq x=false):C80 .eq x x=some true:=by
 show(if okD x&&okD x then some (eqD x x) else eqE x x)=some true;rw[h];cases x with
 |non=>rfl|bl b=>show some (b == b)=_;rw[beq_self_eq_true]|int i=>show some (i == i)=_;rw[beq_self_eq_true]|str s=>show some (s == s)=_;rw[beq_self_eq_true]|tup l=>cases hs
 |lst l=>cases hs
 |dct=>rfl
theorem e81:∀ {l:List D}{d:D},d∈u40 l l->∃ x∈l,d=.tup [x,x]
 |x::r,d,h=>by
  rcases è.mp h with h | h
  ·exact⟨x,É,h⟩
  ·obtain⟨u,hu,e⟩:=e81 h;exact⟨u,Ê _ hu,e⟩
mutual
noncomputable def flat:Nat->D->Bool
 |_,.non=>true|_,.bl _=>true|_,.int _=>true|_,.str _=>false|0,.tup _=>false|d + 1,.tup l=>decide (l.length<=1000)&&Y10 d l|_,.lst _=>false|_,.dct=>false
noncomputable def Y10:Nat->List D->Bool
 |_,[]=>true|d,x::r=>flat d x&&Y10 d r
end
theorem R80:∀ {d:Nat}{l:List D}{x:D},Y10 d l=true->x∈l->flat d x=true
 |d,y::r,x,h,hx=>by
  unfold Y10 at h;rw[Â] at h;rcases è.mp hx with rfl | hx
  ·exact h.1
  ·exact R80 h.2 hx
theorem y51:∀ (d k:Nat) (x:D) (z:Z),flat d x=true->c00 T (k + d + 3) i30 [.d x,.d x] z=some (.ok (.d (.bl true)) z):=by
 have one:∀ (k:Nat) (x:D) (z:Z),okD x=true->Z71 .seq x=false->c00 T (k + 3) i30 [.d x,.d x] z=some (.ok (.d (.bl true)) z):=λk x z h hs=>by
  refine W.ok (n10 (ps:=2) (ns:=2) (b:=l40) rfl rfl (-0) (ie hs ?_))
  refine(a00 (eq_self h hs) ?_ :);cases x with
  |tup l=>cases hs
  |lst l=>cases hs
  |_=>exact sb rfl
 intro d
 induction d with
 |zero =>
  intro k x z h;cases x with
  |non=>exact one k _ z rfl rfl|bl b=>exact one k _ z rfl rfl|int i=>exact one k _ z rfl rfl|_=>unfold flat at h;cases h
 |succ d ih =>
  intro k x z h;cases x with
  |non=>exact one _ _ z rfl rfl|bl b=>exact one _ _ z rfl rfl|int i=>exact one _ _ z rfl rfl
  |tup l =>
   unfold flat at h;rw[Â,decide_eq_true_eq] at h;refine W.ok (n10 (ps:=2) (ns:=2) (b:=l40) rfl rfl (-0) ?_)
   refine ie (b:=!((l.length:Int) == (l.length:Int))) (by rw[beq_self_eq_true];rfl) ?_
   refine ip (c:=(u40 l l).length<=most) (Ò (y50 _ _) (r30 h.1)) (c21 (λ_=>.bl true) (λq hq=>?_) (a00 (F50 (u40 l l) λ_=>true) ?_ :))
   ·obtain⟨x,hx,rfl⟩:=e81 hq;exact Wo (ih k x z (R80 h.2 hx)) ⟨rfl,rfl⟩
   ·exact sb (b:=(u40 l l).all λ_=>true) (â.mpr λ_ _=>rfl)
  |_=>unfold flat at h;cases h
theorem e91{d:Nat}:∀ {l:List D},(∀ x∈l,flat d x=true)->Y10 d l=true
 |[],_=>by unfold Y10;rfl
 |x::r,h=>by
  unfold Y10;rw[h x É,e91 λy hy=>h y (Ê _ hy)];rfl
theorem L30{d:Nat}{l:List D}(h:l.length<=1000)(ha:∀ x∈l,flat d x=true):flat (d + 1) (.tup l)=true:=by
 unfold flat;rw[decide_eq_true h,e91 ha];rfl
theorem I81{d:Nat}{i:Int}:flat d (.int i)=true:=by unfold flat;rfl
theorem R90{d:Nat}{l:List Nat}(h:l.length<=1000):flat (d + 1) (.tup (l.map a60))=true :=
 L30 (by rw[Ç];exact h) λx hx=>by
  obtain⟨i,_,rfl⟩:=Î.mp hx;exact I81
section
variable {m:Int}{ps:List (Int × Int)}
theorem j31(k:Nat)(g:c40 m ps)(z:Z):c00 T (k + 6) F30 [.d (D30 m ps)] z=some (.ok (.d (R60 m ps)) z):=by
 have m1:=g.m1;have m6:=g.m6;have h8:=g.len;refine W.ok (n10 (k:=k + 3) (ps:=1) (ns:=7) (b:=o80) rfl rfl (-0) ?_)
 refine(W50 (.fr ((Ú m.toNat).map a60)) (dE m ps none none none none none) ?_ ?_ ?_ :)
 ·refine(a00 (o:=lrD [.int m]) (Q30 ∅ ∅) ?_ :)
  exact⟨rfl,rfl⟩
 ·rw[B70 (show D00 (.fr ((Ú m.toNat).map a60))=true from c70 _)];rfl
 refine(W50 (.fr []) (dE m ps (some (.fr [])) none none none none) ?_ ?_ ?_ :)
 ·exact⟨rfl,rfl⟩
 ·rw[B70 rfl];rfl
 refine Wo (X30 (k + 2) (m:=m) (ts:=ps.map pr) (by rw[Ç];exact h8) z) ?_
 rw[Ç];refine B60 (λxs ρ z1=>z1=z/\∃ (dn rest:List (List Nat)) (o3 o4 o5 o6:Option S),dn++rest=c30 ps.length/\xs=rest.map b80/\ρ=dE m ps (some (.fr ((dn.filter (f50 m ps)).map (pD (m30 m ps))))) o3 o4 o5 o6) _ ⟨rfl,[],c30 ps.length,_,_,_,_,rfl,rfl,(itE (by show(i70 _&&true)=true;rw[x11];rfl)).trans rfl⟩ ?_ ?_
 ·rintro x r ρ z1 ⟨rfl,dn,rest,o3,o4,o5,o6,hd,e,rfl⟩;cases rest with
  |nil=>cases e
  |cons l rest =>
   cases e;have hl:l∈c30 ps.length:=by rw[← hd];exact ã _ É
   have hd':(dn++[l])++rest=c30 ps.length:=by rw[Æ7];exact hd
   have hdl:dn.length<=256:=by
    have:=congrArg Ó4 hd;rw[õ,l50] at this;have:=K40 h8;omega
   have no:f50 m ps l=false->((dn++[l]).filter (f50 m ps)).map (pD (m30 m ps))=(dn.filter (f50 m ps)).map (pD (m30 m ps)):=λh=>by
    rw[É0,Æ5,h,if_neg Ð,Ì2,Á9]
   have el:(((l.map a60).length:Int) == m - 1)=decide ((l.length:Int)=m - 1):=by
    rw[Ç,þ,beq_iff_eq,decide_eq_true_eq]
   refine ib (b:=((l.map a60).length:Int) == m - 1) (λhb=>?_) λhb=>?_ <;> rw[el] at hb
   ·refine Wo (R70 (k + 1) g g.all (Row.t l) (j90 hl) z1) (ib (b:=g70 ps m.toNat (Ú m.toNat) l) (λhc=>?_) λhc=>?_)
    ·have ht:f50 m ps l=true:=by unfold f50;rw[hb,hc];rfl
     have hT:l∈g90 (i40 m ps (Ú m.toNat)):=by rw[C60 g];exact å.mpr ⟨(k80 h8).mem_iff.mpr hl,ht⟩
     refine(W50 (.fr []) (dE m ps (some (.fr ((dn.filter (f50 m ps)).map (pD (m30 m ps))))) (some (.d (b80 l))) (some (.fr [])) o5 o6) ?_ ?_ ?_ :)
     ·exact⟨rfl,rfl⟩
     ·rw[B70 rfl];rfl
     refine I71 k g hT λo5 o6=>?_;refine ip ⟨?_,?_⟩ ⟨rfl,dn++[l],rest,some (.d (b80 l)),some (.fr ((m30 m ps l).map a60)),o5,o6,hd',rfl,?_⟩
     ·show(i70 (l.map a60)&&(i70 ((m30 m ps l).map a60)&&true))=true;rw[c70,c70];rfl
     ·rw[Ç];have:=À9 (f50 m ps) dn;simp only[most];omega
     ·have e2:(dn.filter (f50 m ps)).map (pD (m30 m ps))++[pD (m30 m ps) l]=((dn++[l]).filter (f50 m ps)).map (pD (m30 m ps)):=by
       rw[É0,Æ5,ht,if_pos rfl,Ì2,Á5];rfl
      exact congrArg (λy=>dE m ps (some (.fr y)) (some (.d (b80 l))) (some (.fr ((m30 m ps l).map a60))) o5 o6) e2
    ·refine⟨rfl,dn++[l],rest,some (.d (b80 l)),o4,o5,o6,hd',rfl,?_⟩;rw[no (by unfold f50;rw[hc,Î1])];rfl
   ·refine⟨rfl,dn++[l],rest,some (.d (b80 l)),o4,o5,o6,hd',rfl,?_⟩;rw[no (by unfold f50;rw[hb];rfl)];rfl
 ·rintro ρ z1 ⟨rfl,dn,rest,o3,o4,o5,o6,hd,e,rfl⟩;cases rest with
  |cons _ _=>cases e
  |nil =>
   rw[Á9] at hd;subst hd;refine(a00 (j01 g (m30 m ps)) ?_ :);exact sd rfl
theorem G00(g:c40 m ps):flat 3 (R60 m ps)=true:=by
 have h8:=g.len;refine L30 (by rw[Ç];exact Ò (Ò y21 (y01 g)) (-0)) λx hx=>?_
 obtain⟨l,hl,rfl⟩:=Î.mp hx;refine L30 (by decide:2<=1000) λy hy=>?_
 have l8:=F22 g hl;simp only[È8,Æ4,or_false] at hy;rcases hy with rfl | rfl
 ·exact R90 ∅
 ·refine R90 ?_;have:(m30 m ps l).length<=(Ú ps.length).length:=Ò (À9 _ _) (À9 _ _);rw[ø] at this;omega
end
theorem Z11(b:Bool):∃ mo:Int,L40 (.lst [.int 7,.int 8]) (.int (if b=true then 1 else 0))=some (.int mo)/\0<=mo/\mo<=8:=by
 cases b with
 |true=>exact⟨8,rfl,by decide,by decide⟩|false=>exact⟨7,rfl,by decide,by decide⟩
abbrev r42(L:Int):Int:=if (if (6:Int) < L then 6 else L) > 1 then(if (6:Int) < L then 6 else L) else 1
theorem q42(k:Nat)(ns:List Int):c00 T (k + 40) o42 [.d (.lst (ns.map D.int))] none=some (.ok (.d (.bl true)) none):=by
 refine W.ok (n10 (k:=k + 37) (ps:=1) (ns:=6) (b:=W61) rfl rfl (-0) ?_)
 have hN:0<=r42 ((ns.map D.int).length:Int)/\r42 ((ns.map D.int).length:Int) < 100000:=by
  unfold r42;split <;> (try split) <;> omega
 refine(a00 (Q30 (m:=r42 ((ns.map D.int).length:Int)) hN.1 hN.2) ?_ :);refine B60 (λxs ρ z=>(∀ x∈xs,∃ j:Nat,x=.int j)/\∃ o1 o2 o3 o4 o5:Option S,ρ=[some (.d (.lst (ns.map D.int))),o1,o2,o3,o4,o5]) _ ⟨λx hx=>?_,_,_,_,_,_,rfl⟩ ?_ ?_
 ·obtain⟨i,_,rfl⟩:=Î.mp hx;exact⟨i,rfl⟩
 ·rintro x r ρ z1 ⟨hx,o1,o2,o3,o4,o5,rfl⟩;obtain⟨j,rfl⟩:=hx x É;obtain⟨sn,sb,hz1,hst⟩:=H21 (k + 35) ns j z1;obtain⟨mo,emo,h0,h8⟩:=Z11 ((j:Int) == 0);refine Wo hst ?_;refine(a00 emo ?_ :);refine(w21 (k + 34) hz1 h0 h8).imp λs z2 ⟨hz2,m,ps,e,g,_⟩=>?_;subst e;refine Wo (j31 (k + 33) g z2) ?_;refine Wo (q20 (k + 27) g z2) (Wo (y51 3 (k + 33) (R60 m ps) z2 (G00 g)) ?_);refine Wo (q20 (k + 27) g z2) (Wo (y51 3 (k + 33) (R60 m ps) z2 (G00 g)) ?_);refine(w51 (k + 35) hz2).imp λs z3 ⟨hz3,bw,e,hbw⟩=>?_;subst e;exact We (D40 (k + 25) z3 hbw) ⟨λx hx'=>hx x (Ê _ hx'),_,_,_,_,_,rfl⟩
 ·rintro ρ z1 ⟨_,o1,o2,o3,o4,o5,rfl⟩;exact⟨rfl,rfl⟩
theorem pure:∀ ns:List Int,ns.length<=63->c00 (tabOf rows) 40 o42 [.d (.lst (ns.map D.int))] none=some (.ok (.d (.bl true)) none):=λns _=>by
 rw[N52];exact q42 0 ns
end K3
namespace K3
open PySem L2 Q
theorem ok:rows.all (a42 (D20 rows) nums)=true:=by decide +kernel
theorem bd:n00 rows:=⟨λ_ _ _ _ _ _ us hl=>by obtain⟨_,rfl⟩:=us1 hl;rfl,
 λ_ _ _ _ _ _ us hl=>by obtain⟨_,_,rfl⟩:=us2 hl;rfl,
 λ_ _ _ _ _ _ us hl=>by obtain⟨_,_,rfl⟩:=us2 hl;rfl,
 λ_ _ _ _ _ _ us hl=>by obtain⟨_,_,rfl⟩:=us2 hl;rfl,
 λ_ _ _ _ _ _ us hl=>by obtain⟨_,rfl⟩:=us1 hl;rfl,
 λ_ _ _ _ _ _ us hl=>by obtain⟨_,rfl⟩:=us1 hl;rfl,
 λ_ _ _ _ _ _ us hl=>by obtain⟨_,_,rfl⟩:=us2 hl;rfl,
 λ_ _ _ _ _ _ us hl=>by obtain⟨_,rfl⟩:=us1 hl;rfl,
 λ_ _ _ _ _ _ us hl=>by obtain⟨_,_,rfl⟩:=us2 hl;rfl,
 λ_ _ _ _ _ _ us hl=>by obtain⟨_,rfl⟩:=us1 hl;rfl,
 λ_ _ _ _ _ _ us hl=>by obtain⟨_,_,rfl⟩:=us2 hl;rfl,
 λ_ _ _ _ _ _ us hl=>by obtain⟨_,_,_,rfl⟩:=us3 hl;rfl,
 λ_ _ _ _ _ _ us hl=>by obtain⟨_,rfl⟩:=us1 hl;rfl,
 λ_ _ _ _ _ _ us hl=>by obtain⟨_,_,rfl⟩:=us2 hl;rfl,
 λ_ _ _ _ _ _ us hl=>by obtain⟨_,rfl⟩:=us1 hl;rfl,
 λ_ _ _ _ _ _ us hl=>by obtain⟨_,rfl⟩:=us1 hl;rfl,
 λ_ _ _ _ _ _ us hl=>by obtain⟨_,_,rfl⟩:=us2 hl;rfl,
 λ_ _ _ _ _ _ us hl=>by obtain⟨_,_,rfl⟩:=us2 hl;rfl,
 λ_ _ _ _ _ _ us hl=>by obtain⟨_,_,_,rfl⟩:=us3 hl;rfl,
 λ_ _ _ _ _ _ us hl=>by obtain⟨_,_,rfl⟩:=us2 hl;rfl,
 λ_ _ _ _ _ _ us hl=>by obtain⟨_,rfl⟩:=us1 hl;rfl,
 λ_ _ _ _ _ _ us hl=>by obtain⟨_,rfl⟩:=us1 hl;rfl,
 λ_ _ _ _ _ _ us hl=>by obtain⟨_,_,rfl⟩:=us2 hl;rfl,
 λ_ _ _ _ _ _ us hl=>by obtain⟨_,_,_,rfl⟩:=us3 hl;rfl,
 λ_ _ _ _ _ _ us hl=>by obtain⟨_,_,rfl⟩:=us2 hl;rfl,
 λ_ _ _ _ _ _ us hl=>by obtain⟨_,_,rfl⟩:=us2 hl;rfl,
 λ_ _ _ _ _ _ us hl=>by obtain⟨_,_,rfl⟩:=us2 hl;rfl,
 λ_ _ _ _ _ _ us hl=>by obtain⟨_,_,rfl⟩:=us2 hl;rfl,
 λ_ _ _ _ _ _ us hl=>by obtain⟨_,_,rfl⟩:=us2 hl;rfl,
 λ_ _ _ _ _ _ us hl=>by obtain⟨_,_,rfl⟩:=us2 hl;rfl,
 λ_ _ _ _ _ _ us hl=>by obtain⟨_,rfl⟩:=us1 hl;rfl,
 λ_ _ _ _ _ _ us hl=>by obtain⟨_,_,_,_,rfl⟩:=us4 hl;rfl,
 λ_ _ _ _ _ _ us hl=>by obtain⟨_,rfl⟩:=us1 hl;rfl,
 λ_ _ _ _ _ _ us hl=>by obtain⟨_,rfl⟩:=us1 hl;rfl,trivial⟩
theorem hR:n32 rows ["law"] [("_law_refused",top 51)]:=λr hr hlm=>by
 have h:=â.mp (show rows.all (λr=>!r.lm || (["law"]:List Str).contains r.nm)=true from by decide +kernel) r hr
 rw[hlm] at h;exact⟨Ò9.mp h,top 51,179,.head _,rfl,rfl,λ_ _ _ _ _ _ us hl=>by obtain⟨_,rfl⟩:=us1 hl;rfl⟩
def asks:m00:=E50 rows nums ["law"] [("_law_refused",top 51)]
def prg:Program:=ö
def vq:Program:=view prg [54]
def loose:List Str:=prg.boundNames.filter λx=>!(x == ("law":Str))
def runL(w:ò)(os:OsState):=(B40 PySem.W.through (PySem.W.stepOk 11 (some (.ref 6))) (PySem.W.stepT (denote treeTable) prg w) 20000 (V51 w os) (PySem.W.topStub prg)).map (λs =>
   (PySem.W.staticsOk (Î3 prg.main.body) (PySem.W.boot_heap w.params) s.abs.heap&&PySem.W.namesBound prg s.abs.heap&&PySem.W.gensDone s.abs&&PySem.W.laidKept (PySem.W.boot_heap w.params) s.abs.heap,
    PySem.W.openSeen vq loose (Î3 prg.main.body) (λ_=>true) true s.abs,asks.obs s.abs))
def runR(w:ò):=some (true,PySem.W.openGood vq loose,asks.due w)
def _root_.PySem.W.Fast.tw17265955139161323522:PySem.Program:=ö
theorem _root_.PySem.W.Fast.te17265955139161323522:ö=PySem.W.Fast.tw17265955139161323522:=rfl
theorem twins:(λ(_:runL=runL/\runR=runR)=>true) ⟨rfl,rfl⟩=true:=by k_qdec
theorem run_eq:∀ (w:ò) (os:OsState),PySem.W.Fast.tw14075725262101462980 w os=PySem.W.Fast.tw18139657281711212703 w:=λw os=>by kernel_rfl
theorem left:PySem.W.LeftO ö vq loose (λ_=>true) asks.hook.obs asks.hook.val 20000:=V61 (by kernel_rfl) rfl (λ_=>by kernel_rfl) λw os =>
 (congrFun (congrFun PySem.W.Fast.te14075725262101462980 w) os).trans ((run_eq w os).trans (congrFun PySem.W.Fast.te18139657281711212703 w).symm)
end K3
open PySem PySem.W PyProof.Rows
set_option maxRecDepth 100000 in
set_option maxHeartbeats 0 in
theorem PySem.Challenge.cw_tiechances_k52_the_trees_paper_holds : PySem.Challenge.rw_tiechances_k52_the_trees_paper.Holds := by
 w_on;o_law
 refine holds_open (q:=K3.vq) (loose:=K3.loose) (Xt:=λ_=>true) (XP:=λ_ _=>True) (Yf:=K3.asks.hook.obs) (Ya:=K3.asks.hook.val) (YP:=K3.asks.hook.says) K3.left K3.asks.hook.of K3.asks.hook.keeps (λ_ _=>trivial) (λ_ _ _ _ _=>trivial) (by rfl) (by rfl) (by rfl) (λs _=>recFacts_of rfl) rfl (by first | assumption | decide +kernel) (by decide +kernel) ⟨rfl,rfl,rfl,rfl,rfl,by decide +kernel⟩ ?hw ?hc
 case hw=>w_witness2
 case hc=>exact Q.H11 (l:=PySem.Challenge.rw_tiechances_k52_the_trees_paper) (n:=63) (k:=40) (x:="_law_script") rfl (-0) rfl ⟨rfl,by decide,by decide⟩ (Q.W01 (k:=37) (iL:=33) K3.ok K3.bd rfl rfl rfl (-0) K3.hR K3.pure)